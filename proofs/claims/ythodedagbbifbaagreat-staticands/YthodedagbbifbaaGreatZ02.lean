/- What the claims of this seat share: base. -/
import Derived.Test.YthodedagbbifbaaGreatZ01
import Derived.BigQuiet
import Derived.Lib.Bytealg
import Derived.OwnWalk
import Derived.Laws.OwnMore
import Derived.Deep.RegionLaw
import Derived.Maps.AppendAt
import Derived.Lib.AppendZeros
import Derived.Shelf.SlGeneric
import Derived.Ground.Names8Prog
import Derived.Shelf.Spec.SlicesGrow
import Derived.Lib.OwnBridge
import Derived.Lib.RowBridge
set_option maxRecDepth 100000
set_option maxHeartbeats 8000000
namespace Go.Proofs.YthodedagbbifbaaGreat
open Go.RowKit
theorem rmade_r (b:Bool) (n d:Int) (w:World) (hn:0≤n) (hn':n≤170141183460469231731687303715884105728) (hd:0<d) (hd':d≤170141183460469231731687303715884105728) (hbn:b=true→0<n):
  Calls Tryz.prog 161 #[.bool b,.agg #[.int .u64 (g0 n),.int .u64 (g1 n),.int .u64 (g2 n),.int .u64 (g3 n)],.agg #[.int .u64 (g0 d),.int .u64 (g1 d),.int .u64 (g2 d),.int .u64 (g3 d)]] w fun e w'=>e=.returned (.tuple #[.agg #[.int .i64 (rN (sg b n) d),.int .i64 (rD (sg b n) d)],.int .i64 (rE (sg b n) d)])∧Below w.heap.size w w':=by
 have h:=rmade_any b n d w hn hn' hd hd' hbn
 have e1:=sg_div b n (gc n d) (gc_dvd_left n d hn)
 have e2:sz (sg b n)=n:=by rw [sz_sg,sz_of_nonneg hn]
 unfold rN rD rE
 rw [e2,← e1]
 exact h
theorem rOf_zero (n:Int) (w:World):
  Calls Tryz.prog 139 #[.int .i64 n,.int .i64 0] w fun e w'=>e=.returned (.tuple #[.agg #[.int .i64 0,.int .i64 0],.int .i64 11])∧Below w.heap.size w w':=by
 go_enter Tryz.func139,Tryz.ntmps139
 go_wp2
 go_returns
 exact ⟨rfl,by go_grown⟩
theorem rof_exg (n:Int) (w:World) (h1:0≤n) (h2:n≤18446744073709551615):
  Calls Tryz.prog 159 #[.int .u64 n] w fun e w'=>e=.returned (.agg #[.int .u64 (g0 n),.int .u64 (g1 n),.int .u64 (g2 n),.int .u64 (g3 n)])∧∃ c1 c2:Array Value,w'=(w.alloc (.cells c1 192)).alloc (.cells c2 192):=by
 have e2:g2 n=0:=by unfold g2;omega
 have e3:g3 n=0:=by unfold g3;omega
 rw [e2,e3];exact rof_ex n w h1 h2
theorem rOf_raw (b:Bool) (n d:Int) (w:World) (h1: -9223372036854775808≤n) (h2:n≤9223372036854775807) (k1: -9223372036854775808≤d) (k2:d≤9223372036854775807) (hd:(d==0)=false) (z1:0≤sz n) (z2:sz n≤9223372036854775808) (z3:0<sz d) (z4:sz d≤9223372036854775808) (hbn:b=true→0<sz n)
  (hc:(n=0∧b=false)∨((n != 0)=true∧b=(decide (n<0) != decide (d<0)))):
  Calls Tryz.prog 139 #[.int .i64 n,.int .i64 d] w fun e w'=>e=.returned (.tuple #[.agg #[.int .i64 (rN (sg b (sz n)) (sz d)),.int .i64 (rD (sg b (sz n)) (sz d))],.int .i64 (rE (sg b (sz n)) (sz d))])∧Below w.heap.size w w':=by
 have HM:Hid (∀ W:World,Calls Tryz.prog 161 #[.bool b,.agg #[.int .u64 (g0 (sz n)),.int .u64 (g1 (sz n)),.int .u64 (g2 (sz n)),.int .u64 (g3 (sz n))],.agg #[.int .u64 (g0 (sz d)),.int .u64 (g1 (sz d)),.int .u64 (g2 (sz d)),.int .u64 (g3 (sz d))]] W fun e w'=>e=.returned (.tuple #[.agg #[.int .i64 (rN (sg b (sz n)) (sz d)),.int .i64 (rD (sg b (sz n)) (sz d))],.int .i64 (rE (sg b (sz n)) (sz d))])∧Below W.heap.size W w'):=
  fun W=>rmade_r b (sz n) (sz d) W z1 (by omega) z3 (by omega) hbn
 clear hbn
 rcases hc with ⟨hn,hb⟩ | ⟨hn,hb⟩
 ·subst hn;subst hb
  go_enter Tryz.func139,Tryz.ntmps139
  go_wp2_with (first
   | (go_at_call 160;refine (rsize_any _ _ (by omega) (by omega)).mono ?_;rintro e w' ⟨rfl,rfl⟩)
   | (go_at_call 159;refine (rof_exg _ _ (by omega) (by omega)).mono ?_;rintro e w' ⟨rfl,c1,c2,rfl⟩)
   | (go_at_call 161;refine (HM.out _).mono ?_;rintro e w3 ⟨rfl,hb⟩;obtain ⟨hc,hf,hz,hB⟩:=bf (w:=w) (by go_grown) hb;have bR:Hid (Blk2 w3 (w.heap.size) 0 0):=Blk2.below (by constructor<;>simp (maxDischargeDepth:=12) [go_sem]) hb (by go_size)))
  generalize hW9:World.setCell _ _ _=W9
  have b9:=bR.out.two (rN (sg false (sz 0)) (sz d)) (rD (sg false (sz 0)) (sz d))
  rw [hW9] at b9
  have hB9:Below w.heap.size w W9:=by rw [← hW9];exact Below.setCell (Below.setCell hB (by simp) _) (by simp) _
  clear hW9 hc hf hz hB hb bR
  obtain ⟨x0,x1, -, -⟩:=b9
  refine bodyPost_ret (by simp [results,Tryz.results139,go_sem,x0,x1];try rfl) rfl ?_
  exact ⟨rfl,hB9⟩
 ·have hb':b= !(decide (n<0)==decide (d<0)):=hb
  subst hb'
  clear hb
  go_enter Tryz.func139,Tryz.ntmps139
  go_wp2_with (first
   | (go_at_call 160;refine (rsize_any _ _ (by omega) (by omega)).mono ?_;rintro e w' ⟨rfl,rfl⟩)
   | (go_at_call 159;refine (rof_exg _ _ (by omega) (by omega)).mono ?_;rintro e w' ⟨rfl,c1,c2,rfl⟩)
   | (go_at_call 161;refine (HM.out _).mono ?_;rintro e w3 ⟨rfl,hb⟩;obtain ⟨hc,hf,hz,hB⟩:=bf (w:=w) (by go_grown) hb;have bR:Hid (Blk2 w3 (w.heap.size) 0 0):=Blk2.below (by constructor<;>simp (maxDischargeDepth:=12) [go_sem]) hb (by go_size)))
  generalize hW9:World.setCell _ _ _=W9
  have b9:=bR.out.two (rN (sg (!(decide (n<0)==decide (d<0))) (sz n)) (sz d)) (rD (sg (!(decide (n<0)==decide (d<0))) (sz n)) (sz d))
  rw [hW9] at b9
  have hB9:Below w.heap.size w W9:=by rw [← hW9];exact Below.setCell (Below.setCell hB (by simp) _) (by simp) _
  clear hW9 hc hf hz hB hb bR
  obtain ⟨x0,x1, -, -⟩:=b9
  refine bodyPost_ret (by simp [results,Tryz.results139,go_sem,x0,x1];try rfl) rfl ?_
  exact ⟨rfl,hB9⟩
theorem rOf_all (n d:Int) (w:World) (h1: -9223372036854775808≤n) (h2:n≤9223372036854775807) (k1: -9223372036854775808≤d) (k2:d≤9223372036854775807):
  Calls Tryz.prog 139 #[.int .i64 n,.int .i64 d] w fun e w'=>e=.returned (.tuple #[.agg #[.int .i64 (oN n d),.int .i64 (oD n d)],.int .i64 (oE n d)])∧Below w.heap.size w w':=by
 unfold oN oD oE
 by_cases h:d=0
 ·subst h;simpa using rOf_zero n w
 ·rw [if_neg h,if_neg h,if_neg h]
  have z3:0<sz d:=by unfold sz;omega
  by_cases hn:n=0
  ·have e:ofP n d=sg false (sz n):=by subst hn;unfold ofP sg sz;simp
   rw [e]
   exact rOf_raw false n d w h1 h2 k1 k2 (by simpa using h) (sz_nonneg n) (sz_le h1 h2) z3 (sz_le k1 k2) (by simp) (Or.inl ⟨hn,rfl⟩)
  ·have e:ofP n d=sg (decide (n<0) != decide (d<0)) (sz n):=(sg_sz n (decide (d<0))).symm
   rw [e]
   exact rOf_raw _ n d w h1 h2 k1 k2 (by simpa using h) (sz_nonneg n) (sz_le h1 h2) z3 (sz_le k1 k2) (fun _=>by unfold sz;omega) (Or.inr ⟨by simpa using hn,rfl⟩)
theorem may_neg {n d:Int} (h:d≤0):mayB n d=false:=by
 cases e:mayB n d
 ·rfl
 ·have:=(may_of e).1;omega
theorem rmay_any (n d:Int) (w:World) (h1: -9223372036854775808≤n) (h2:n≤9223372036854775807) (g1: -9223372036854775808≤d) (g2:d≤9223372036854775807):
  Calls Tryz.prog 125 #[.agg #[.int .i64 n,.int .i64 d]] w fun e w'=>e=.returned (.bool (mayB n d))∧Below w.heap.size w w':=by
 by_cases hd:d≤0
 ·rw [may_neg hd]
  go_enter Tryz.func125,Tryz.ntmps125
  go_wp2
  go_ret
  exact ⟨rfl,by go_grown⟩
 ·have hd2:(d≤0)=False:=by simp;omega
  by_cases a1:oE n d=0
  ·go_enter Tryz.func125,Tryz.ntmps125
   go_wp2_with (first
    | (go_at_call 139;refine (rOf_all _ _ _ h1 h2 g1 g2).mono ?_;rintro e w1 ⟨rfl,hb⟩;obtain ⟨hc,hf,hz,hB⟩:=bf (w:=w) (by go_grown) hb;simp only [World.size_alloc] at hz;have z0:w.heap.size<w1.heap.size:=by omega))
   all_goals
    go_ret
    exact ⟨by simp [mayB, *],by go_grown⟩
  ·have a2:(oE n d==0)=false:=by simpa using a1
   go_enter Tryz.func125,Tryz.ntmps125
   go_wp2_with (first
    | (go_at_call 139;refine (rOf_all _ _ _ h1 h2 g1 g2).mono ?_;rintro e w1 ⟨rfl,hb⟩;obtain ⟨hc,hf,hz,hB⟩:=bf (w:=w) (by go_grown) hb;simp only [World.size_alloc] at hz;have z0:w.heap.size<w1.heap.size:=by omega))
   all_goals
    go_ret
    exact ⟨by simp [mayB,a2],by go_grown⟩
end Go.Proofs.YthodedagbbifbaaGreat
namespace Go.Proofs.YthodedagbbifbaaGreat
open Go.RowKit Go.Shelf
theorem size_empty {s:ByteArray} (h:s.toList.isEmpty=true):s.size=0:=by
 rw [ByteArray.toList_eq] at h
 cases hl:s.data.toList with
 | nil=>
  have h3:s.data.toList.length=0:=by rw [hl];rfl
  exact h3
 | cons a b=>rw [hl] at h;exact Bool.noConfusion h
theorem rfrac_any (k n d:Int) (s:ByteArray) (w:World):
  Calls Tryz.prog 126 #[.agg #[.int .i64 k,.int .i64 n,.int .i64 d,.string s]] w fun e w'=>e=.returned (.agg #[.int .i64 n,.int .i64 d])∧Below w.heap.size w w':=by
 go_enter Tryz.func126,Tryz.ntmps126
 go_wp2
 go_returns
 exact ⟨rfl,by go_grown⟩
theorem rcheck_1 (n d:Int) (s:ByteArray) (w:World):
  Calls Tryz.prog 98 #[.agg #[.int .i64 1,.int .i64 n,.int .i64 d,.string s]] w fun e w'=>e=.returned (.int .i64 (chk 1 n d s))∧Below w.heap.size w w':=by
 cases hd:d==0
 ·have e0:chk 1 n d s=20:=by simp [chk,pureB,hd]
  have d1:¬ d=0:=by simpa using hd
  have d2:(d != 0)=true:=by simpa using d1
  rw [e0]
  go_enter Tryz.func98,Tryz.ntmps98
  go_wp2
  go_ret
  exact ⟨rfl,by go_grown⟩
 ·have hd':d=0:=by simpa using hd
  subst hd'
  cases hs:s.toList.isEmpty
  ·have e0:chk 1 n 0 s=20:=by simp [chk,pureB,hs]
   rw [e0]
   go_enter Tryz.func98,Tryz.ntmps98
   go_wp2
   go_ret
   exact ⟨rfl,by go_grown⟩
  ·have e0:chk 1 n 0 s=0:=by have:=size_empty hs;simp [chk,pureB,hs,this]
   rw [e0]
   go_enter Tryz.func98,Tryz.ntmps98
   go_wp2
   go_ret
   exact ⟨rfl,by go_grown⟩
theorem rcheck_2 (n d:Int) (s:ByteArray) (w:World) (h1: -9223372036854775808≤n) (h2:n≤9223372036854775807) (g1: -9223372036854775808≤d) (g2:d≤9223372036854775807):
  Calls Tryz.prog 98 #[.agg #[.int .i64 2,.int .i64 n,.int .i64 d,.string s]] w fun e w'=>e=.returned (.int .i64 (chk 2 n d s))∧Below w.heap.size w w':=by
 cases hs:s.toList.isEmpty
 ·have e0:chk 2 n d s=20:=by simp [chk,pureB,hs]
  rw [e0]
  go_enter Tryz.func98,Tryz.ntmps98
  go_wp2_with fail
  refine (rfrac_any 2 n d s _).mono ?_
  rintro e w1 ⟨rfl,hb1⟩
  go_wp2_with fail
  refine (rmay_any n d _ h1 h2 g1 g2).mono ?_
  rintro e w2 ⟨rfl,hb2⟩
  obtain ⟨hc,hf,hz,hB⟩:=bf (w:=w) (by go_grown) (hb1.trans (hb2.mono hb1.size))
  simp only [World.size_alloc] at hz
  have z0:w.heap.size<w2.heap.size:=by omega
  go_wp2
  go_ret
  exact ⟨rfl,hB⟩
 ·have z:=size_empty hs
  cases hm:mayB n d
  ·have e0:chk 2 n d s=20:=by simp [chk,pureB,hm]
   rw [e0]
   go_enter Tryz.func98,Tryz.ntmps98
   go_wp2_with fail
   refine (rfrac_any 2 n d s _).mono ?_
   rintro e w1 ⟨rfl,hb1⟩
   go_wp2_with fail
   refine (rmay_any n d _ h1 h2 g1 g2).mono ?_
   rintro e w2 ⟨rfl,hb2⟩
   obtain ⟨hc,hf,hz,hB⟩:=bf (w:=w) (by go_grown) (hb1.trans (hb2.mono hb1.size))
   simp only [World.size_alloc] at hz
   have z0:w.heap.size<w2.heap.size:=by omega
   rw [hm]
   go_wp2
   go_ret
   exact ⟨rfl,hB⟩
  ·have e0:chk 2 n d s=0:=by simp [chk,pureB,hm,hs,z]
   rw [e0]
   go_enter Tryz.func98,Tryz.ntmps98
   go_wp2_with fail
   refine (rfrac_any 2 n d s _).mono ?_
   rintro e w1 ⟨rfl,hb1⟩
   go_wp2_with fail
   refine (rmay_any n d _ h1 h2 g1 g2).mono ?_
   rintro e w2 ⟨rfl,hb2⟩
   obtain ⟨hc,hf,hz,hB⟩:=bf (w:=w) (by go_grown) (hb1.trans (hb2.mono hb1.size))
   simp only [World.size_alloc] at hz
   have z0:w.heap.size<w2.heap.size:=by omega
   rw [hm]
   go_wp2
   go_ret
   exact ⟨rfl,hB⟩
theorem rcheck_3 (n d:Int) (s:ByteArray) (w:World):
  Calls Tryz.prog 98 #[.agg #[.int .i64 3,.int .i64 n,.int .i64 d,.string s]] w fun e w'=>e=.returned (.int .i64 (chk 3 n d s))∧Below w.heap.size w w':=by
 cases hn:n==0
 ·have e0:chk 3 n d s=20:=by simp [chk,pureB,hn]
  have d1:¬ n=0:=by simpa using hn
  have d2:(n != 0)=true:=by simpa using d1
  rw [e0]
  go_enter Tryz.func98,Tryz.ntmps98
  go_wp2
  go_ret
  exact ⟨rfl,by go_grown⟩
 ·have hn':n=0:=by simpa using hn
  subst hn'
  cases hd:d==0
  ·have e0:chk 3 0 d s=20:=by simp [chk,pureB,hd]
   have d1:¬ d=0:=by simpa using hd
   have d2:(d != 0)=true:=by simpa using d1
   rw [e0]
   go_enter Tryz.func98,Tryz.ntmps98
   go_wp2
   go_ret
   exact ⟨rfl,by go_grown⟩
  ·have hd':d=0:=by simpa using hd
   subst hd'
   by_cases hl:64<s.size
   ·have e0:chk 3 0 0 s=2:=by simp [chk,pureB,hl]
    rw [e0]
    have hl':(64:Int)<s.size:=by omega
    go_enter Tryz.func98,Tryz.ntmps98
    go_wp2
    go_ret
    exact ⟨rfl,by go_grown⟩
   ·have e0:chk 3 0 0 s=0:=by simp [chk,pureB,hl]
    rw [e0]
    have hl':((64:Int)<s.size)=False:=by simp;omega
    go_enter Tryz.func98,Tryz.ntmps98
    go_wp2
    go_ret
    exact ⟨rfl,by go_grown⟩
theorem rcheck_any (k n d:Int) (s:ByteArray) (w:World) (h1: -9223372036854775808≤n) (h2:n≤9223372036854775807) (g1: -9223372036854775808≤d) (g2:d≤9223372036854775807):
  Calls Tryz.prog 98 #[.agg #[.int .i64 k,.int .i64 n,.int .i64 d,.string s]] w fun e w'=>e=.returned (.int .i64 (chk k n d s))∧Below w.heap.size w w':=by
 by_cases k1:k=1
 ·subst k1;exact rcheck_1 n d s w
 ·by_cases k2:k=2
  ·subst k2;exact rcheck_2 n d s w h1 h2 g1 g2
  ·by_cases k3:k=3
   ·subst k3;exact rcheck_3 n d s w
   ·have e0:chk k n d s=20:=by simp [chk,pureB,k1,k2,k3]
    rw [e0]
    have k1':(k==1)=false:=by simpa using k1
    have k2':(k==2)=false:=by simpa using k2
    have k3':(k==3)=false:=by simpa using k3
    go_enter Tryz.func98,Tryz.ntmps98
    go_wp2
    go_ret
    exact ⟨rfl,by go_grown⟩
def sameB (k n d:Int) (s:ByteArray) (k' n' d':Int) (s':ByteArray):Bool:=k==k' && (n==n' && (d==d' && s.toList==s'.toList))
theorem rsame_any (k n d:Int) (s:ByteArray) (k' n' d':Int) (s':ByteArray) (w:World):
  Calls Tryz.prog 97 #[.agg #[.int .i64 k,.int .i64 n,.int .i64 d,.string s],.agg #[.int .i64 k',.int .i64 n',.int .i64 d',.string s']] w fun e w'=>e=.returned (.bool (sameB k n d s k' n' d' s'))∧Below w.heap.size w w':=by
 by_cases hk:k=k'
 ·subst hk
  by_cases hn:n=n'
  ·subst hn
   by_cases hd:d=d'
   ·subst hd
    go_enter Tryz.func97,Tryz.ntmps97
    go_wp2
    go_ret
    exact ⟨ret_bool (by simp [sameB]),by go_grown⟩
   ·have e1:(d==d')=false:=by simpa using hd
    go_enter Tryz.func97,Tryz.ntmps97
    go_wp2
    go_ret
    exact ⟨ret_bool (by simp [sameB,hd]),by go_grown⟩
  ·have e1:(n==n')=false:=by simpa using hn
   go_enter Tryz.func97,Tryz.ntmps97
   go_wp2
   go_ret
   exact ⟨ret_bool (by simp [sameB,hn]),by go_grown⟩
 ·have e1:(k==k')=false:=by simpa using hk
  go_enter Tryz.func97,Tryz.ntmps97
  go_wp2
  go_ret
  exact ⟨ret_bool (by simp [sameB,hk]),by go_grown⟩
theorem vsame_any (k n d:Int) (s:ByteArray) (k' n' d':Int) (s':ByteArray) (w:World):
  Calls Tryz.prog 147 #[.agg #[.int .i64 k,.int .i64 n,.int .i64 d,.string s],.agg #[.int .i64 k',.int .i64 n',.int .i64 d',.string s']] w fun e w'=>e=.returned (.bool (sameB k n d s k' n' d' s'))∧Below w.heap.size w w':=by
 go_enter Tryz.func147,Tryz.ntmps147
 go_wp2
 all_goals
  go_ret
  exact ⟨ret_bool (by simp_all [sameB]),by go_grown⟩
end Go.Proofs.YthodedagbbifbaaGreat
namespace Go.Proofs.YthodedagbbifbaaGreat
open Go.RowKit Go.Shelf
set_option linter.unusedVariables false
structure Val where
 k:Int
 n:Int
 d:Int
 s:ByteArray
structure Val.Fits (x:Val):Prop where
 n1: -9223372036854775808≤x.n
 n2:x.n≤9223372036854775807
 d1: -9223372036854775808≤x.d
 d2:x.d≤9223372036854775807
def Val.may (x:Val):Int:=chk x.k x.n x.d x.s
end Go.Proofs.YthodedagbbifbaaGreat
namespace Go.Proofs.YthodedagbbifbaaGreat
open Go.RowKit LX Go.Shelf
set_option linter.unusedVariables false
inductive Tm where
 | mk (k:Int) (nm:ByteArray) (v:Val) (subs:List Tm)
section
mutual
inductive Fm where
 | mk (k:Int) (nm:ByteArray) (op:Int) (vars:List ByteArray) (terms:List Tm) (lo:Int) (hi:Int) (opn:Bool) (subs:List Fm) (rgx:List Rx)
inductive Rx where
 | mk (k:Int) (test:List Fm) (subs:List Rx)
end
end
def Tm.k:Tm→Int | .mk k _ _ _=>k
def Tm.nm:Tm→ByteArray | .mk _ n _ _=>n
def Tm.v:Tm→Val | .mk _ _ v _=>v
def Tm.subs:Tm→List Tm | .mk _ _ _ s=>s
def Fm.k:Fm→Int | .mk k _ _ _ _ _ _ _ _ _=>k
def Fm.nm:Fm→ByteArray | .mk _ n _ _ _ _ _ _ _ _=>n
def Fm.op:Fm→Int | .mk _ _ o _ _ _ _ _ _ _=>o
def Fm.vars:Fm→List ByteArray | .mk _ _ _ v _ _ _ _ _ _=>v
def Fm.terms:Fm→List Tm | .mk _ _ _ _ t _ _ _ _ _=>t
def Fm.lo:Fm→Int | .mk _ _ _ _ _ l _ _ _ _=>l
def Fm.hi:Fm→Int | .mk _ _ _ _ _ _ h _ _ _=>h
def Fm.opn:Fm→Bool | .mk _ _ _ _ _ _ _ o _ _=>o
def Fm.subs:Fm→List Fm | .mk _ _ _ _ _ _ _ _ s _=>s
def Fm.rgx:Fm→List Rx | .mk _ _ _ _ _ _ _ _ _ r=>r
def Rx.k:Rx→Int | .mk k _ _=>k
def Rx.test:Rx→List Fm | .mk _ t _=>t
def Rx.subs:Rx→List Rx | .mk _ _ s=>s
theorem Tm.subs_lt (t:Tm):SizeOf.sizeOf t.subs<SizeOf.sizeOf t:=by cases t;simp [Tm.subs];omega
theorem Fm.subs_lt (f:Fm):SizeOf.sizeOf f.subs<SizeOf.sizeOf f:=by cases f;simp [Fm.subs];omega
theorem Fm.rgx_lt (f:Fm):SizeOf.sizeOf f.rgx<SizeOf.sizeOf f:=by cases f;simp [Fm.rgx];omega
theorem Rx.test_lt (r:Rx):SizeOf.sizeOf r.test<SizeOf.sizeOf r:=by cases r;simp [Rx.test];omega
theorem Rx.subs_lt (r:Rx):SizeOf.sizeOf r.subs<SizeOf.sizeOf r:=by cases r;simp [Rx.subs];omega
theorem mem_lt {α:Type} [SizeOf α] {l:List α} (i:Nat) (h:i<l.length):SizeOf.sizeOf l[i]<SizeOf.sizeOf l:=List.sizeOf_lt_of_mem (List.getElem_mem h)
def NmsAt (w:World) (v:Value) (vs:List ByteArray):Prop:=vs.length≤9223372036854775807∧∃ p c,v=.slice p vs.length c∧vs.length≤c∧(vs=[]∨∃ b off,p=some ⟨b,off,none⟩∧b<w.heap.size∧∀ i (h:i<vs.length),w.cell? ⟨b,off+i,none⟩=some (.string vs[i]))
def TmC (w:World) (b o:Nat) (t:Tm) (u:Value):Prop:=w.cell? ⟨b,o,none⟩=some (.int .i64 t.k)∧w.cell? ⟨b,o+1,none⟩=some (.string t.nm)∧w.cell? ⟨b,o+2,none⟩=some (.int .i64 t.v.k)∧w.cell? ⟨b,o+3,none⟩=some (.int .i64 t.v.n)∧w.cell? ⟨b,o+4,none⟩=some (.int .i64 t.v.d)∧w.cell? ⟨b,o+5,none⟩=some (.string t.v.s)∧w.cell? ⟨b,o+6,none⟩=some u
inductive TmsAt (w:World):Value→List Tm→Prop
 | nil {p:Option Addr} {c:Nat}:TmsAt w (.slice p 0 c) []
 | row {b off c:Nat} {ts:List Tm} (us:Nat→Value) (hl:ts.length≤9223372036854775807) (fit:∀ i (h:i<ts.length),ts[i].v.Fits) (hc:ts.length≤c) (hb:b<w.heap.size) (cells:∀ i (h:i<ts.length),TmC w b (off+i*7) ts[i] (us i)) (sub:∀ i (h:i<ts.length),TmsAt w (us i) ts[i].subs):TmsAt w (.slice (some ⟨b,off,none⟩) ts.length c) ts
def FmC (w:World) (b o:Nat) (f:Fm) (uv ut us ur:Value):Prop:=w.cell? ⟨b,o,none⟩=some (.int .i64 f.k)∧w.cell? ⟨b,o+1,none⟩=some (.string f.nm)∧w.cell? ⟨b,o+2,none⟩=some (.int .i64 f.op)∧w.cell? ⟨b,o+3,none⟩=some uv∧w.cell? ⟨b,o+4,none⟩=some ut∧w.cell? ⟨b,o+5,none⟩=some (.int .i64 f.lo)∧w.cell? ⟨b,o+6,none⟩=some (.int .i64 f.hi)∧w.cell? ⟨b,o+7,none⟩=some (.bool f.opn)∧w.cell? ⟨b,o+8,none⟩=some us∧w.cell? ⟨b,o+9,none⟩=some ur
def RxC (w:World) (b o:Nat) (r:Rx) (ut us:Value):Prop:=w.cell? ⟨b,o,none⟩=some (.int .i64 r.k)∧w.cell? ⟨b,o+1,none⟩=some ut∧w.cell? ⟨b,o+2,none⟩=some us
section
mutual
inductive FmsAt (w:World):Value→List Fm→Prop
 | nil {p:Option Addr} {c:Nat}:FmsAt w (.slice p 0 c) []
 | row {b off c:Nat} {fs:List Fm} (uv ut us ur:Nat→Value) (hl:fs.length≤9223372036854775807) (hc:fs.length≤c) (hb:b<w.heap.size) (cells:∀ i (h:i<fs.length),FmC w b (off+i*10) fs[i] (uv i) (ut i) (us i) (ur i)) (vars:∀ i (h:i<fs.length),NmsAt w (uv i) fs[i].vars) (terms:∀ i (h:i<fs.length),TmsAt w (ut i) fs[i].terms) (sub:∀ i (h:i<fs.length),FmsAt w (us i) fs[i].subs) (rgx:∀ i (h:i<fs.length),RxsAt w (ur i) fs[i].rgx):FmsAt w (.slice (some ⟨b,off,none⟩) fs.length c) fs
inductive RxsAt (w:World):Value→List Rx→Prop
 | nil {p:Option Addr} {c:Nat}:RxsAt w (.slice p 0 c) []
 | row {b off c:Nat} {rs:List Rx} (ut us:Nat→Value) (hl:rs.length≤9223372036854775807) (hc:rs.length≤c) (hb:b<w.heap.size) (cells:∀ i (h:i<rs.length),RxC w b (off+i*3) rs[i] (ut i) (us i)) (test:∀ i (h:i<rs.length),FmsAt w (ut i) rs[i].test) (sub:∀ i (h:i<rs.length),RxsAt w (us i) rs[i].subs):RxsAt w (.slice (some ⟨b,off,none⟩) rs.length c) rs
end
end
def FmAt (w:World) (v:Value) (f:Fm):Prop:=∃ uv ut us ur,v=.agg #[.int .i64 f.k,.string f.nm,.int .i64 f.op,uv,ut,.int .i64 f.lo,.int .i64 f.hi,.bool f.opn,us,ur]∧NmsAt w uv f.vars∧TmsAt w ut f.terms∧FmsAt w us f.subs∧RxsAt w ur f.rgx
theorem NmsAt.below {w w':World} {v:Value} {vs:List ByteArray} (h:NmsAt w v vs) (hb:Below w.heap.size w w'):NmsAt w' v vs:=by
 obtain ⟨hl,p,c,e,hc,h | ⟨b,off,h1,h2,h3⟩⟩:=h
 ·exact ⟨hl,p,c,e,hc,Or.inl h⟩
 ·exact ⟨hl,p,c,e,hc,Or.inr ⟨b,off,h1,Nat.lt_of_lt_of_le h2 hb.size,fun i hi=>(hb.cell (p:=⟨b,_,none⟩) h2).trans (h3 i hi)⟩⟩
theorem TmC.below {w w':World} {b o:Nat} {t:Tm} {u:Value} (h:TmC w b o t u) (hb:Below w.heap.size w w') (hB:b<w.heap.size):TmC w' b o t u:=by
 obtain ⟨h0,h1,h2,h3,h4,h5,h6⟩:=h
 exact ⟨(hb.cell (p:=⟨b,_,none⟩) hB).trans h0,(hb.cell (p:=⟨b,_,none⟩) hB).trans h1,(hb.cell (p:=⟨b,_,none⟩) hB).trans h2,(hb.cell (p:=⟨b,_,none⟩) hB).trans h3,(hb.cell (p:=⟨b,_,none⟩) hB).trans h4,(hb.cell (p:=⟨b,_,none⟩) hB).trans h5,(hb.cell (p:=⟨b,_,none⟩) hB).trans h6⟩
theorem TmsAt.bel {w w':World} {v:Value} {ts:List Tm} (h:TmsAt w v ts) (hb:Below w.heap.size w w'):TmsAt w' v ts:=by
 induction h with
 | nil=>exact .nil
 | row us hl fit hc hB cells sub ih=>exact .row us hl fit hc (Nat.lt_of_lt_of_le hB hb.size) (fun i h=>(cells i h).below hb hB) ih
theorem FmC.below {w w':World} {b o:Nat} {f:Fm} {uv ut us ur:Value} (h:FmC w b o f uv ut us ur) (hb:Below w.heap.size w w') (hB:b<w.heap.size):FmC w' b o f uv ut us ur:=by
 obtain ⟨h0,h1,h2,h3,h4,h5,h6,h7,h8,h9⟩:=h
 exact ⟨(hb.cell (p:=⟨b,_,none⟩) hB).trans h0,(hb.cell (p:=⟨b,_,none⟩) hB).trans h1,(hb.cell (p:=⟨b,_,none⟩) hB).trans h2,(hb.cell (p:=⟨b,_,none⟩) hB).trans h3,(hb.cell (p:=⟨b,_,none⟩) hB).trans h4,(hb.cell (p:=⟨b,_,none⟩) hB).trans h5,(hb.cell (p:=⟨b,_,none⟩) hB).trans h6,(hb.cell (p:=⟨b,_,none⟩) hB).trans h7,(hb.cell (p:=⟨b,_,none⟩) hB).trans h8,(hb.cell (p:=⟨b,_,none⟩) hB).trans h9⟩
theorem RxC.below {w w':World} {b o:Nat} {r:Rx} {ut us:Value} (h:RxC w b o r ut us) (hb:Below w.heap.size w w') (hB:b<w.heap.size):RxC w' b o r ut us:=by
 obtain ⟨h0,h1,h2⟩:=h
 exact ⟨(hb.cell (p:=⟨b,_,none⟩) hB).trans h0,(hb.cell (p:=⟨b,_,none⟩) hB).trans h1,(hb.cell (p:=⟨b,_,none⟩) hB).trans h2⟩
theorem both_below {w w':World} (hb:Below w.heap.size w w'):∀ n,(∀ (v:Value) (fs:List Fm),SizeOf.sizeOf fs≤n→FmsAt w v fs→FmsAt w' v fs)∧(∀ (v:Value) (rs:List Rx),SizeOf.sizeOf rs≤n→RxsAt w v rs→RxsAt w' v rs):=by
 intro n
 induction n with
 | zero=>
  refine ⟨fun v fs hn h=> ?_,fun v rs hn h=> ?_⟩
  ·cases fs<;>simp at hn
  ·cases rs<;>simp at hn
 | succ n ih=>
  refine ⟨fun v fs hn h=> ?_,fun v rs hn h=> ?_⟩
  ·cases h with
   | nil=>exact .nil
   | row uv ut us ur hl hc hB cells vars terms sub rgx=>
    exact .row uv ut us ur hl hc (Nat.lt_of_lt_of_le hB hb.size) (fun i h=>(cells i h).below hb hB) (fun i h=>(vars i h).below hb) (fun i h=>(terms i h).bel hb)
     (fun i h=>ih.1 _ _ (by have:=mem_lt i h;have:=Fm.subs_lt fs[i];omega) (sub i h)) (fun i h=>ih.2 _ _ (by have:=mem_lt i h;have:=Fm.rgx_lt fs[i];omega) (rgx i h))
  ·cases h with
   | nil=>exact .nil
   | row ut us hl hc hB cells test sub=>
    exact .row ut us hl hc (Nat.lt_of_lt_of_le hB hb.size) (fun i h=>(cells i h).below hb hB)
     (fun i h=>ih.1 _ _ (by have:=mem_lt i h;have:=Rx.test_lt rs[i];omega) (test i h)) (fun i h=>ih.2 _ _ (by have:=mem_lt i h;have:=Rx.subs_lt rs[i];omega) (sub i h))
theorem FmsAt.bel {w w':World} {v:Value} {fs:List Fm} (h:FmsAt w v fs) (hb:Below w.heap.size w w'):FmsAt w' v fs:=(both_below hb _).1 v fs (Nat.le_refl _) h
theorem RxsAt.bel {w w':World} {v:Value} {rs:List Rx} (h:RxsAt w v rs) (hb:Below w.heap.size w w'):RxsAt w' v rs:=(both_below hb _).2 v rs (Nat.le_refl _) h
theorem TmsAt.form {w:World} {v:Value} {ts:List Tm} (h:TmsAt w v ts):∃ p c,v=.slice p ts.length c∧ts.length≤9223372036854775807∧ts.length≤c∧∀ i (hi:i<ts.length),∃ b off u,p=some ⟨b,off,none⟩∧b<w.heap.size∧TmC w b (off+i*7) ts[i] u∧TmsAt w u ts[i].subs∧ts[i].v.Fits:=by
 cases h with
 | nil=>exact ⟨_,_,rfl,by simp,by simp,fun i hi=>by simp at hi⟩
 | row us hl fit hc hB cells sub=>exact ⟨_,_,rfl,hl,hc,fun i hi=>⟨_,_,us i,rfl,hB,cells i hi,sub i hi,fit i hi⟩⟩
theorem FmsAt.form {w:World} {v:Value} {fs:List Fm} (h:FmsAt w v fs):∃ p c,v=.slice p fs.length c∧fs.length≤9223372036854775807∧fs.length≤c∧∀ i (hi:i<fs.length),∃ b off uv ut us ur,p=some ⟨b,off,none⟩∧b<w.heap.size∧FmC w b (off+i*10) fs[i] uv ut us ur∧NmsAt w uv fs[i].vars∧TmsAt w ut fs[i].terms∧FmsAt w us fs[i].subs∧RxsAt w ur fs[i].rgx:=by
 cases h with
 | nil=>exact ⟨_,_,rfl,by simp,by simp,fun i hi=>by simp at hi⟩
 | row uv ut us ur hl hc hB cells vars terms sub rgx=>exact ⟨_,_,rfl,hl,hc,fun i hi=>⟨_,_,uv i,ut i,us i,ur i,rfl,hB,cells i hi,vars i hi,terms i hi,sub i hi,rgx i hi⟩⟩
theorem RxsAt.form {w:World} {v:Value} {rs:List Rx} (h:RxsAt w v rs):∃ p c,v=.slice p rs.length c∧rs.length≤9223372036854775807∧rs.length≤c∧∀ i (hi:i<rs.length),∃ b off ut us,p=some ⟨b,off,none⟩∧b<w.heap.size∧RxC w b (off+i*3) rs[i] ut us∧FmsAt w ut rs[i].test∧RxsAt w us rs[i].subs:=by
 cases h with
 | nil=>exact ⟨_,_,rfl,by simp,by simp,fun i hi=>by simp at hi⟩
 | row ut us hl hc hB cells test sub=>exact ⟨_,_,rfl,hl,hc,fun i hi=>⟨_,_,ut i,us i,rfl,hB,cells i hi,test i hi,sub i hi⟩⟩
structure KeepT (T:Nat) (w w':World):Prop where
 os:w'.os=w.os
 tape:w'.tape=w.tape
 output:w'.output=w.output
 size:w.heap.size≤w'.heap.size
 block:∀ k,k<w.heap.size→k≠T→w'.heap[k]? =w.heap[k]?
theorem KeepT.refl (T:Nat) (w:World):KeepT T w w:=⟨rfl,rfl,rfl,Nat.le_refl _,fun _ _ _=>rfl⟩
theorem KeepT.trans {T:Nat} {a b c:World} (h:KeepT T a b) (k:KeepT T b c):KeepT T a c:=⟨k.os.trans h.os,k.tape.trans h.tape,k.output.trans h.output,Nat.le_trans h.size k.size,fun i hi hT=>(k.block i (Nat.lt_of_lt_of_le hi h.size) hT).trans (h.block i hi hT)⟩
theorem KeepT.of {T:Nat} {w w':World} (h:Below w.heap.size w w'):KeepT T w w':=⟨h.os,h.tape,h.output,h.size,fun k hk _=>h.block k hk⟩
theorem KeepT.below {T B:Nat} {w w':World} (h:KeepT T w w') (hB:B≤T) (hT:T≤w.heap.size):Below B w w':=⟨h.os,h.tape,h.output,h.size,fun k hk=>h.block k (by omega) (by omega)⟩
theorem KeepT.cell {T:Nat} {w w':World} (h:KeepT T w w') {p:Addr} (hp:p.block<w.heap.size) (hT:p.block≠T):w'.cell? p=w.cell? p:=World.cell?_of_block (w:=w) (h.block p.block hp hT)
def Tal (T:Nat) (s:Int×Int) (w:World):Prop:=w.heap[T]? =some (.cells #[.int .i64 s.1,.int .i64 s.2,.slice none 0 0] 79 (0,0))
theorem Tal.lt {T:Nat} {s:Int×Int} {w:World} (h:Tal T s w):T<w.heap.size:=(Array.getElem?_eq_some_iff.1 h).1
theorem Tal.alloc {T:Nat} {s:Int×Int} {w:World} (h:Tal T s w) (o:Obj):Tal T s (w.alloc o):=(Below.heap_alloc w o T h.lt).trans h
theorem Tal.below {T:Nat} {s:Int×Int} {w w':World} (h:Tal T s w) (hb:Below w.heap.size w w'):Tal T s w':=(hb.block T h.lt).trans h
theorem set_heapA {W:World} {b o e:Nat} {u:Value} {cur:Array Value} {fz:Nat×Nat} (hb:W.heap[b]? =some (.cells cur e fz)):(W.setCell ⟨b,o,none⟩ u).heap[b]? =some (.cells (cur.setIfInBounds o u) e fz):=by
 show (W.heap.modify b _)[b]? =_
 rw [Array.getElem?_modify,if_pos rfl,hb]
 rfl
theorem tal_set {T:Nat} {s:Int×Int} (x y:Int) {w:World} (h:Tal T s w):KeepT T w ((w.setCell ⟨T,0,none⟩ (.int .i64 x)).setCell ⟨T,1,none⟩ (.int .i64 y))∧Tal T (x,y) ((w.setCell ⟨T,0,none⟩ (.int .i64 x)).setCell ⟨T,1,none⟩ (.int .i64 y)):=by
 refine ⟨⟨rfl,rfl,rfl,by simp [World.setCell],fun k hk hT=> ?_⟩, ?_⟩
 ·exact (Below.heap_setCell _ _ _ _ hT).trans (Below.heap_setCell _ _ _ _ hT)
 ·exact set_heapA (set_heapA h)
def meetE (dep:Int) (s:Int×Int):Int:=if 24<dep then 71 else if s.1=256 then 3 else 0
def meetS (dep:Int) (s:Int×Int):Int×Int:=if meetE dep s=0 then (s.1+1,max s.2 dep) else s
def OkS (s:Int×Int):Prop:=0≤s.1∧s.1≤256∧0≤s.2∧s.2≤24
theorem meetS_ok {dep:Int} {s:Int×Int} (h:OkS s) (hd:0≤dep):OkS (meetS dep s):=by
 unfold meetS
 split
 ·rename_i he
  unfold meetE at he
  by_cases h1:24<dep
  ·rw [if_pos h1] at he;cases he
  rw [if_neg h1] at he
  by_cases h2:s.1=256
  ·rw [if_pos h2] at he;cases he
  obtain ⟨a,b,c,d⟩:=h
  refine ⟨?_, ?_, ?_, ?_⟩
  ·show 0≤s.1+1;omega
  ·show s.1+1≤256;omega
  ·show 0≤max s.2 dep;omega
  ·show max s.2 dep≤24;omega
 ·exact h
theorem meetE_le {dep:Int} {s:Int×Int} (h:meetE dep s=0):dep≤24:=by
 unfold meetE at h
 by_cases h1:24<dep
 ·rw [if_pos h1] at h;cases h
 ·omega
theorem meet_any (T:Nat) (dep:Int) (s:Int×Int) (w:World) (hT:Tal T s w) (hs:OkS s) (hd:0≤dep∧dep≤25):
  Calls Tryz.prog 101 #[.pointer (some ⟨T,0,none⟩),.int .i64 dep] w fun r w'=>r=.returned (.int .i64 (meetE dep s))∧KeepT T w w'∧Tal T (meetS dep s) w':=by
 have HT:Hid (Tal T s w):=hT
 have c0:w.cell? ⟨T,0,none⟩=some (.int .i64 s.1):=by rw [Lib.cell_of_heap hT];rfl
 have c1:w.cell? ⟨T,1,none⟩=some (.int .i64 s.2):=by rw [Lib.cell_of_heap hT];rfl
 have f0:w.frozen? ⟨T,0,none⟩=false:=Lib.frozen_of_heap hT 0
 have f1:w.frozen? ⟨T,1,none⟩=false:=Lib.frozen_of_heap hT 1
 clear hT
 obtain ⟨n,d⟩:=s
 dsimp only at c0 c1
 obtain ⟨s1,s2,s3,s4⟩:=hs
 dsimp only at s1 s2 s3 s4
 by_cases h1:24<dep
 ·have hE:Hid (meetE dep (n,d)=71):=if_pos h1
  have hS:Hid (meetS dep (n,d)=(n,d)):=if_neg (by rw [hE.out];decide)
  rw [hE.out,hS.out]
  go_enter Tryz.func101,Tryz.ntmps101
  go_wp2
  go_ret
  exact ⟨rfl,KeepT.refl _ _,HT.out⟩
 by_cases h2:n=256
 ·subst h2
  have hE:Hid (meetE dep (256,d)=3):=by unfold Hid meetE;rw [if_neg h1,if_pos rfl]
  have hS:Hid (meetS dep (256,d)=(256,d)):=if_neg (by rw [hE.out];decide)
  rw [hE.out,hS.out]
  go_enter Tryz.func101,Tryz.ntmps101
  go_wp2
  go_ret
  exact ⟨rfl,KeepT.refl _ _,HT.out⟩
 have hE:Hid (meetE dep (n,d)=0):=by unfold Hid meetE;rw [if_neg h1,if_neg h2]
 have hS:Hid (meetS dep (n,d)=(n+1,max d dep)):=if_pos hE.out
 rw [hE.out,hS.out]
 have h2':(n==256)=false:=by simp [h2]
 go_enter Tryz.func101,Tryz.ntmps101
 go_wp2
 go_ret
 exact ⟨rfl,tal_set _ _ HT.out⟩
theorem named_any (x:ByteArray) (b:Bool) (w:World):
  Calls Tryz.prog 143 #[.string x,.bool b] w fun r w'=>r=.returned (.bool (if b=true then nameB x else x.toList==[]))∧w'=w:=by
 have cN:Hid (∀ W:World,Calls Tryz.prog 162 #[.string x] W fun e w'=>e=.returned (.bool (nameB x))∧w'=W):=fun W=>name_any x W
 generalize nameB x=N at cN ⊢
 cases b with
 | false=>
  go_enter Tryz.func143,Tryz.ntmps143
  go_wp2
  go_ret
  exact ⟨by first | rfl | simp,rfl⟩
 | true=>
  go_enter Tryz.func143,Tryz.ntmps143
  go_wp2_with fail
  refine (cN.out _).mono ?_
  rintro e w1 ⟨rfl,rfl⟩
  go_wp2
  go_ret
  exact ⟨by first | rfl | simp,rfl⟩
def tmE (t:Tm):Int:=if t.k<1∨5<t.k then 20 else if (if t.k=1 then nameB t.nm else t.nm.toList==[])=false∨t.subs.length≠(if 3≤t.k then 2 else 0) then 1 else if t.k=2 then t.v.may else if sameB t.v.k t.v.n t.v.d t.v.s 0 0 0 ⟨#[]⟩=true then 0 else 1
theorem retI {a b:Int} (h:a=b):Ending.returned (.int .i64 a)=.returned (.int .i64 b):=by rw [h]
theorem cterm_any (t:Tm) (p:Option Addr) (c:Nat) (w:World) (f:t.v.Fits):
  Calls Tryz.prog 130 #[.agg #[.int .i64 t.k,.string t.nm,.int .i64 t.v.k,.int .i64 t.v.n,.int .i64 t.v.d,.string t.v.s,.slice p t.subs.length c]] w fun r w'=>r=.returned (.int .i64 (tmE t))∧Below w.heap.size w w':=by
 have cM:Hid (∀ (b:Bool) (W:World),Calls Tryz.prog 143 #[.string t.nm,.bool b] W fun r w'=>r=.returned (.bool (if b=true then nameB t.nm else t.nm.toList==[]))∧w'=W):=fun b W=>named_any t.nm b W
 have cC:Hid (∀ W:World,Calls Tryz.prog 146 #[.agg #[.int .i64 t.v.k,.int .i64 t.v.n,.int .i64 t.v.d,.string t.v.s]] W fun e w'=>e=.returned (.int .i64 t.v.may)∧Below W.heap.size W w'):=fun W=>check_any t.v.k t.v.n t.v.d t.v.s W f.n1 f.n2 f.d1 f.d2
 have cS:Hid (∀ W:World,Calls Tryz.prog 147 #[.agg #[.int .i64 t.v.k,.int .i64 t.v.n,.int .i64 t.v.d,.string t.v.s],.agg #[.int .i64 0,.int .i64 0,.int .i64 0,.string ⟨#[]⟩]] W fun e w'=>e=.returned (.bool (sameB t.v.k t.v.n t.v.d t.v.s 0 0 0 ⟨#[]⟩))∧Below W.heap.size W w'):=fun W=>vsame_any t.v.k t.v.n t.v.d t.v.s 0 0 0 ⟨#[]⟩ W
 have hE:Hid (tmE t=if t.k<1∨5<t.k then 20 else if (if t.k=1 then nameB t.nm else t.nm.toList==[])=false∨t.subs.length≠(if 3≤t.k then 2 else 0) then 1 else if t.k=2 then t.v.may else if sameB t.v.k t.v.n t.v.d t.v.s 0 0 0 ⟨#[]⟩=true then 0 else 1):=rfl
 generalize tmE t=E at hE ⊢
 generalize t.k=k at*
 generalize t.nm=X at*
 generalize t.v.may=M at*
 generalize sameB t.v.k t.v.n t.v.d t.v.s 0 0 0 ⟨#[]⟩=Z at*
 generalize t.v=v at*
 obtain ⟨vk,vn,vd,vs⟩:=v
 dsimp only at cC cS ⊢
 generalize t.subs.length=n at*
 clear f
 by_cases hk:k<1∨5<k
 ·have hE2:Hid (E=20):=by have h:=hE.out;rwa [if_pos hk] at h
  have k1:(k==1)=false:=by simp;omega
  have k2:(k==2)=false:=by simp;omega
  have k3:(k==3)=false:=by simp;omega
  have k4:(k==4)=false:=by simp;omega
  have k5:(k==5)=false:=by simp;omega
  go_enter Tryz.func130,Tryz.ntmps130
  go_wp2
  go_ret
  exact ⟨retI hE2.out.symm,by go_grown⟩
 have hE1:Hid (E=if (if k=1 then nameB X else X.toList==[])=false∨n≠(if 3≤k then 2 else 0) then 1 else if k=2 then M else if Z=true then 0 else 1):=by have h:=hE.out;rwa [if_neg hk] at h
 clear hE
 have hkk:k=1∨k=2∨k=3∨k=4∨k=5:=by omega
 clear hk
 rcases hkk with rfl | rfl | rfl | rfl | rfl
 ·have cM1:Hid (∀ W:World,Calls Tryz.prog 143 #[.string X,.bool true] W fun r w'=>r=.returned (.bool (nameB X))∧w'=W):=fun W=>cM.out true W
  have hE2:Hid (E=if (nameB X)=false∨n≠0 then 1 else if Z=true then 0 else 1):=by have h:=hE1.out;unfold Hid;simpa using h
  generalize (nameB X)=NB at cM1 hE2
  clear hE1 cM
  cases NB with
  | false=>
   have hE3:Hid (E=1):=by have h:=hE2.out;rwa [if_pos (Or.inl rfl)] at h
   go_enter Tryz.func130,Tryz.ntmps130
   go_wp2_with fail
   refine (cM1.out _).mono ?_
   rintro r w1 ⟨rfl,rfl⟩
   go_wp2
   go_ret
   exact ⟨retI hE3.out.symm,by go_grown⟩
  | true=>
  by_cases hn:n=0
  case neg=>
   have hE3:Hid (E=1):=by have h:=hE2.out;rwa [if_pos (Or.inr hn)] at h
   have hn':((n:Int) != 0)=true:=by simp;omega
   have hn'':¬ (n:Int)=0:=by omega
   go_enter Tryz.func130,Tryz.ntmps130
   go_wp2_with fail
   refine (cM1.out _).mono ?_
   rintro r w1 ⟨rfl,rfl⟩
   go_wp2
   go_ret
   exact ⟨retI hE3.out.symm,by go_grown⟩
  subst hn
  have hE3:Hid (E=if Z=true then 0 else 1):=by have h:=hE2.out;rwa [if_neg (by simp)] at h
  clear hE2
  go_enter Tryz.func130,Tryz.ntmps130
  go_wp2_with fail
  refine (cM1.out _).mono ?_
  rintro r w1 ⟨rfl,rfl⟩
  go_wp2_with fail
  refine (cS.out _).mono ?_
  rintro r w2 ⟨rfl,hb2⟩
  obtain ⟨hB2, -⟩:=bgX (n:=w.heap.size) (W0:=w) (by go_grown) (by go_size) hb2
  cases Z with
  | true=>
   go_wp2
   go_ret
   exact ⟨retI hE3.out.symm,hB2⟩
  | false=>
   go_wp2
   go_ret
   exact ⟨retI hE3.out.symm,hB2⟩
 ·have cM1:Hid (∀ W:World,Calls Tryz.prog 143 #[.string X,.bool false] W fun r w'=>r=.returned (.bool (X.toList==[]))∧w'=W):=fun W=>cM.out false W
  have hE2:Hid (E=if (X.toList==[])=false∨n≠0 then 1 else M):=by have h:=hE1.out;unfold Hid;simpa using h
  generalize (X.toList==[])=NB at cM1 hE2
  clear hE1 cM
  cases NB with
  | false=>
   have hE3:Hid (E=1):=by have h:=hE2.out;rwa [if_pos (Or.inl rfl)] at h
   go_enter Tryz.func130,Tryz.ntmps130
   go_wp2_with fail
   refine (cM1.out _).mono ?_
   rintro r w1 ⟨rfl,rfl⟩
   go_wp2
   go_ret
   exact ⟨retI hE3.out.symm,by go_grown⟩
  | true=>
  by_cases hn:n=0
  case neg=>
   have hE3:Hid (E=1):=by have h:=hE2.out;rwa [if_pos (Or.inr hn)] at h
   have hn':((n:Int) != 0)=true:=by simp;omega
   have hn'':¬ (n:Int)=0:=by omega
   go_enter Tryz.func130,Tryz.ntmps130
   go_wp2_with fail
   refine (cM1.out _).mono ?_
   rintro r w1 ⟨rfl,rfl⟩
   go_wp2
   go_ret
   exact ⟨retI hE3.out.symm,by go_grown⟩
  subst hn
  have hE3:Hid (E=M):=by have h:=hE2.out;rwa [if_neg (by simp)] at h
  clear hE2
  go_enter Tryz.func130,Tryz.ntmps130
  go_wp2_with fail
  refine (cM1.out _).mono ?_
  rintro r w1 ⟨rfl,rfl⟩
  go_wp2_with fail
  refine (cC.out _).mono ?_
  rintro r w2 ⟨rfl,hb2⟩
  obtain ⟨hB2, -⟩:=bgX (n:=w.heap.size) (W0:=w) (by go_grown) (by go_size) hb2
  go_wp2
  go_ret
  exact ⟨retI hE3.out.symm,hB2⟩
 ·have cM1:Hid (∀ W:World,Calls Tryz.prog 143 #[.string X,.bool false] W fun r w'=>r=.returned (.bool (X.toList==[]))∧w'=W):=fun W=>cM.out false W
  have hE2:Hid (E=if (X.toList==[])=false∨n≠2 then 1 else if Z=true then 0 else 1):=by have h:=hE1.out;unfold Hid;simpa using h
  generalize (X.toList==[])=NB at cM1 hE2
  clear hE1 cM
  cases NB with
  | false=>
   have hE3:Hid (E=1):=by have h:=hE2.out;rwa [if_pos (Or.inl rfl)] at h
   go_enter Tryz.func130,Tryz.ntmps130
   go_wp2_with fail
   refine (cM1.out _).mono ?_
   rintro r w1 ⟨rfl,rfl⟩
   go_wp2
   go_ret
   exact ⟨retI hE3.out.symm,by go_grown⟩
  | true=>
  by_cases hn:n=2
  case neg=>
   have hE3:Hid (E=1):=by have h:=hE2.out;rwa [if_pos (Or.inr hn)] at h
   have hn':((n:Int) != 2)=true:=by simp;omega
   have hn'':¬ (n:Int)=2:=by omega
   go_enter Tryz.func130,Tryz.ntmps130
   go_wp2_with fail
   refine (cM1.out _).mono ?_
   rintro r w1 ⟨rfl,rfl⟩
   go_wp2
   go_ret
   exact ⟨retI hE3.out.symm,by go_grown⟩
  subst hn
  have hE3:Hid (E=if Z=true then 0 else 1):=by have h:=hE2.out;rwa [if_neg (by simp)] at h
  clear hE2
  go_enter Tryz.func130,Tryz.ntmps130
  go_wp2_with fail
  refine (cM1.out _).mono ?_
  rintro r w1 ⟨rfl,rfl⟩
  go_wp2_with fail
  refine (cS.out _).mono ?_
  rintro r w2 ⟨rfl,hb2⟩
  obtain ⟨hB2, -⟩:=bgX (n:=w.heap.size) (W0:=w) (by go_grown) (by go_size) hb2
  cases Z with
  | true=>
   go_wp2
   go_ret
   exact ⟨retI hE3.out.symm,hB2⟩
  | false=>
   go_wp2
   go_ret
   exact ⟨retI hE3.out.symm,hB2⟩
 ·have cM1:Hid (∀ W:World,Calls Tryz.prog 143 #[.string X,.bool false] W fun r w'=>r=.returned (.bool (X.toList==[]))∧w'=W):=fun W=>cM.out false W
  have hE2:Hid (E=if (X.toList==[])=false∨n≠2 then 1 else if Z=true then 0 else 1):=by have h:=hE1.out;unfold Hid;simpa using h
  generalize (X.toList==[])=NB at cM1 hE2
  clear hE1 cM
  cases NB with
  | false=>
   have hE3:Hid (E=1):=by have h:=hE2.out;rwa [if_pos (Or.inl rfl)] at h
   go_enter Tryz.func130,Tryz.ntmps130
   go_wp2_with fail
   refine (cM1.out _).mono ?_
   rintro r w1 ⟨rfl,rfl⟩
   go_wp2
   go_ret
   exact ⟨retI hE3.out.symm,by go_grown⟩
  | true=>
  by_cases hn:n=2
  case neg=>
   have hE3:Hid (E=1):=by have h:=hE2.out;rwa [if_pos (Or.inr hn)] at h
   have hn':((n:Int) != 2)=true:=by simp;omega
   have hn'':¬ (n:Int)=2:=by omega
   go_enter Tryz.func130,Tryz.ntmps130
   go_wp2_with fail
   refine (cM1.out _).mono ?_
   rintro r w1 ⟨rfl,rfl⟩
   go_wp2
   go_ret
   exact ⟨retI hE3.out.symm,by go_grown⟩
  subst hn
  have hE3:Hid (E=if Z=true then 0 else 1):=by have h:=hE2.out;rwa [if_neg (by simp)] at h
  clear hE2
  go_enter Tryz.func130,Tryz.ntmps130
  go_wp2_with fail
  refine (cM1.out _).mono ?_
  rintro r w1 ⟨rfl,rfl⟩
  go_wp2_with fail
  refine (cS.out _).mono ?_
  rintro r w2 ⟨rfl,hb2⟩
  obtain ⟨hB2, -⟩:=bgX (n:=w.heap.size) (W0:=w) (by go_grown) (by go_size) hb2
  cases Z with
  | true=>
   go_wp2
   go_ret
   exact ⟨retI hE3.out.symm,hB2⟩
  | false=>
   go_wp2
   go_ret
   exact ⟨retI hE3.out.symm,hB2⟩
 ·have cM1:Hid (∀ W:World,Calls Tryz.prog 143 #[.string X,.bool false] W fun r w'=>r=.returned (.bool (X.toList==[]))∧w'=W):=fun W=>cM.out false W
  have hE2:Hid (E=if (X.toList==[])=false∨n≠2 then 1 else if Z=true then 0 else 1):=by have h:=hE1.out;unfold Hid;simpa using h
  generalize (X.toList==[])=NB at cM1 hE2
  clear hE1 cM
  cases NB with
  | false=>
   have hE3:Hid (E=1):=by have h:=hE2.out;rwa [if_pos (Or.inl rfl)] at h
   go_enter Tryz.func130,Tryz.ntmps130
   go_wp2_with fail
   refine (cM1.out _).mono ?_
   rintro r w1 ⟨rfl,rfl⟩
   go_wp2
   go_ret
   exact ⟨retI hE3.out.symm,by go_grown⟩
  | true=>
  by_cases hn:n=2
  case neg=>
   have hE3:Hid (E=1):=by have h:=hE2.out;rwa [if_pos (Or.inr hn)] at h
   have hn':((n:Int) != 2)=true:=by simp;omega
   have hn'':¬ (n:Int)=2:=by omega
   go_enter Tryz.func130,Tryz.ntmps130
   go_wp2_with fail
   refine (cM1.out _).mono ?_
   rintro r w1 ⟨rfl,rfl⟩
   go_wp2
   go_ret
   exact ⟨retI hE3.out.symm,by go_grown⟩
  subst hn
  have hE3:Hid (E=if Z=true then 0 else 1):=by have h:=hE2.out;rwa [if_neg (by simp)] at h
  clear hE2
  go_enter Tryz.func130,Tryz.ntmps130
  go_wp2_with fail
  refine (cM1.out _).mono ?_
  rintro r w1 ⟨rfl,rfl⟩
  go_wp2_with fail
  refine (cS.out _).mono ?_
  rintro r w2 ⟨rfl,hb2⟩
  obtain ⟨hB2, -⟩:=bgX (n:=w.heap.size) (W0:=w) (by go_grown) (by go_size) hb2
  cases Z with
  | true=>
   go_wp2
   go_ret
   exact ⟨retI hE3.out.symm,hB2⟩
  | false=>
   go_wp2
   go_ret
   exact ⟨retI hE3.out.symm,hB2⟩
section
mutual
def trun (dep:Int) (s:Int×Int):Tm→Int×(Int×Int)
 | .mk k nm v subs=>if meetE dep s=0 then (if tmE (.mk k nm v subs)=0 then truns (dep+1) (meetS dep s) subs else (tmE (.mk k nm v subs),meetS dep s)) else (meetE dep s,s)
def truns (dep:Int) (s:Int×Int):List Tm→Int×(Int×Int)
 | []=>(0,s)
 | t::l=>if (trun dep s t).1=0 then truns dep (trun dep s t).2 l else trun dep s t
end
end
theorem trun_eq (dep:Int) (s:Int×Int) (t:Tm):trun dep s t=if meetE dep s=0 then (if tmE t=0 then truns (dep+1) (meetS dep s) t.subs else (tmE t,meetS dep s)) else (meetE dep s,s):=by
 cases t
 rw [trun]
 rfl
theorem truns_cons (dep:Int) (s:Int×Int) (t:Tm) (l:List Tm):truns dep s (t::l)=if (trun dep s t).1=0 then truns dep (trun dep s t).2 l else trun dep s t:=by rw [truns]
theorem truns_nil (dep:Int) (s:Int×Int):truns dep s []=(0,s):=by rw [truns]
theorem truns_ok:∀ (m:Nat) (ts:List Tm) (dep:Int) (s:Int×Int),SizeOf.sizeOf ts≤m→OkS s→0≤dep→OkS (truns dep s ts).2:=by
 intro m
 induction m with
 | zero=>intro ts dep s hm;cases ts<;>simp at hm
 | succ m ih=>
  intro ts dep s hm hs hd
  cases ts with
  | nil=>rw [truns_nil];exact hs
  | cons t l=>
   simp only [List.cons.sizeOf_spec] at hm
   have ht:OkS (trun dep s t).2:=by
    rw [trun_eq]
    by_cases h1:meetE dep s=0
    ·rw [if_pos h1]
     by_cases h2:tmE t=0
     ·rw [if_pos h2];exact ih _ _ _ (by have:=t.subs_lt;omega) (meetS_ok hs hd) (by omega)
     ·rw [if_neg h2];exact meetS_ok hs hd
    ·rw [if_neg h1];exact hs
   rw [truns_cons]
   split
   ·exact ih _ _ _ (by omega) ht hd
   ·exact ht
theorem terms_any (w0:World) (T:Nat) (hT0:w0.heap.size≤T):∀ (m:Nat) (ts:List Tm) (V:Value) (dep:Int) (s:Int×Int) (w:World),SizeOf.sizeOf ts≤m→TmsAt w0 V ts→Below w0.heap.size w0 w→Tal T s w→OkS s→0≤dep→dep≤25→
  Calls Tryz.prog 103 #[.pointer (some ⟨T,0,none⟩),.int .i64 dep,V] w fun r w'=>r=.returned (.int .i64 (truns dep s ts).1)∧KeepT T w w'∧Tal T (truns dep s ts).2 w':=by
 intro m
 induction m with
 | zero=>intro ts V dep s w hm;cases ts<;>simp at hm
 | succ m ih=>
  intro ts V dep s w hm hV hw hT hs hd0 hd1
  obtain ⟨p,c,rfl,hl,hc,HX0⟩:=hV.form
  have HX:Hid (∀ i (hi:i<ts.length),∃ b off u,p=some ⟨b,off,none⟩∧b<w0.heap.size∧TmC w0 b (off+i*7) ts[i] u∧TmsAt w0 u ts[i].subs∧ts[i].v.Fits):=HX0
  have IH:Hid (∀ (ts:List Tm) (V:Value) (dep:Int) (s:Int×Int) (w:World),SizeOf.sizeOf ts≤m→TmsAt w0 V ts→Below w0.heap.size w0 w→Tal T s w→OkS s→0≤dep→dep≤25→Calls Tryz.prog 103 #[.pointer (some ⟨T,0,none⟩),.int .i64 dep,V] w fun r w'=>r=.returned (.int .i64 (truns dep s ts).1)∧KeepT T w w'∧Tal T (truns dep s ts).2 w'):=ih
  have HT:Hid (Tal T s w):=hT
  have HS:Hid (OkS s):=hs
  have hTw:T<w.heap.size:=hT.lt
  have HM:Hid (SizeOf.sizeOf ts≤m+1):=hm
  clear hV HX0 ih hT hs hm
  obtain ⟨R,eR⟩:∃ R:Int×(Int×Int),Hid (truns dep s ts=R):=⟨_,rfl⟩
  rw [eR.out]
  obtain ⟨n,en⟩:∃ n:Nat,Hid (ts.length=n):=⟨_,rfl⟩
  rw [en.out] at hl hc ⊢
  go_enter Tryz.func103,Tryz.ntmps103
  go_wp2
  go_loopw [12] (fun v wr=>∃ (k:Nat) (q:Int×Int),k≤n∧v=.int .i64 k∧Hid (R=truns dep q (ts.drop k))∧KeepT T w wr∧Hid (Tal T q wr)∧Hid (OkS q)) (fun v _=>n - (intOf v).toNat)
  case atStart=>exact ⟨0,s,Nat.zero_le _,rfl,by rw [List.drop_zero];exact eR.out.symm,KeepT.refl _ _,HT,HS⟩
  case round=>
   obtain ⟨k,q,hk,rfl,hr,hK,hT,hs⟩:=hrel
   by_cases hlt:k<n
   case neg=>
    have c2:¬ (k:Int)<n:=by omega
    have hr2:Hid (R=(0,q)):=by
     have h:=hr.out
     rw [List.drop_eq_nil_of_le (by have:=en.out;omega),truns_nil] at h
     exact h
    go_wp2
    go_ret
    rw [hr2.out]
    exact ⟨rfl,hK,hT.out⟩
   have hlt':(k:Int)<n:=by omega
   have kx:k<ts.length:=by have:=en.out;omega
   obtain ⟨b,off,u,rfl,hb,TC,TS,TF⟩:=HX.out k kx
   have hTr:T<wr.heap.size:=Nat.lt_of_lt_of_le hTw hK.size
   have hBr:Below w0.heap.size w0 wr:=hw.trans ((hK.below (B:=w0.heap.size) hT0 (Nat.le_of_lt hTw)))
   obtain ⟨a0,a1,a2,a3,a4,a5,a6⟩:=TC.below hBr hb
   have hr2:Hid (R=if (trun dep q ts[k]).1=0 then truns dep (trun dep q ts[k]).2 (ts.drop (k+1)) else trun dep q ts[k]):=by
    have h:=hr.out
    rw [List.drop_eq_getElem_cons kx,truns_cons] at h
    exact h
   have hsz:Hid (SizeOf.sizeOf ts[k].subs≤m):=by
    have h1:=mem_lt k kx
    have h2:=ts[k].subs_lt
    have h3:=HM.out
    unfold Hid
    omega
   have hte:=trun_eq dep q ts[k]
   clear TC hr
   generalize ts[k]=t at*
   obtain ⟨pu,cu,rfl, -⟩:=TS.form
   have cM:Hid (∀ W:World,Tal T q W→Calls Tryz.prog 101 #[.pointer (some ⟨T,0,none⟩),.int .i64 dep] W fun r w'=>r=.returned (.int .i64 (meetE dep q))∧KeepT T W w'∧Tal T (meetS dep q) w'):=fun W hW=>meet_any T dep q W hW hs.out ⟨hd0,hd1⟩
   have cC:Hid (∀ W:World,Calls Tryz.prog 130 #[.agg #[.int .i64 t.k,.string t.nm,.int .i64 t.v.k,.int .i64 t.v.n,.int .i64 t.v.d,.string t.v.s,.slice pu t.subs.length cu]] W fun r w'=>r=.returned (.int .i64 (tmE t))∧Below W.heap.size W w'):=fun W=>cterm_any t pu cu W TF
   have cR:Hid (∀ W:World,Below w0.heap.size w0 W→Tal T (meetS dep q) W→meetE dep q=0→Calls Tryz.prog 103 #[.pointer (some ⟨T,0,none⟩),.int .i64 (dep+1),.slice pu t.subs.length cu] W fun r w'=>r=.returned (.int .i64 (truns (dep+1) (meetS dep q) t.subs).1)∧KeepT T W w'∧Tal T (truns (dep+1) (meetS dep q) t.subs).2 w'):=fun W h1 h2 h3=>IH.out t.subs _ (dep+1) (meetS dep q) W hsz.out TS h1 h2 (meetS_ok hs.out hd0) (by omega) (by have:=meetE_le h3;omega)
   have HO2:Hid (OkS (truns (dep+1) (meetS dep q) t.subs).2):=truns_ok m t.subs (dep+1) (meetS dep q) hsz.out (meetS_ok hs.out hd0) (by omega)
   clear TS TF hsz
   have HTE:Hid (trun dep q t=if meetE dep q=0 then (if tmE t=0 then truns (dep+1) (meetS dep q) t.subs else (tmE t,meetS dep q)) else (meetE dep q,q)):=hte
   have HMS:Hid (¬ meetE dep q=0→meetS dep q=q):=fun h=>if_neg h
   clear hte
   generalize trun dep q t=TR at*
   generalize truns (dep+1) (meetS dep q) t.subs=TS at*
   generalize meetS dep q=Q1 at*
   generalize meetE dep q=E1 at*
   generalize tmE t=E2 at*
   generalize t.subs.length=nu at*
   generalize t.v.k=vk at*
   generalize t.v.n=vn at*
   generalize t.v.d=vd at*
   generalize t.v.s=vs at*
   generalize t.k=tk at*
   generalize t.nm=nm at*
   have hTne:wr.heap.size≠T:=by omega
   go_wp2_with fail
   refine (cM.out _ (Tal.alloc hT.out _)).mono ?_
   rintro r w2 ⟨rfl,hk2,ht2⟩
   have e0:w2.cell? ⟨wr.heap.size,0,none⟩=some (.int .i64 tk):=(hk2.cell (p:=⟨wr.heap.size,0,none⟩) (by simp) hTne).trans (by simp [go_sem])
   have e1:w2.cell? ⟨wr.heap.size,1,none⟩=some (.string nm):=(hk2.cell (p:=⟨wr.heap.size,1,none⟩) (by simp) hTne).trans (by simp [go_sem])
   have e2:w2.cell? ⟨wr.heap.size,2,none⟩=some (.int .i64 vk):=(hk2.cell (p:=⟨wr.heap.size,2,none⟩) (by simp) hTne).trans (by simp [go_sem])
   have e3:w2.cell? ⟨wr.heap.size,3,none⟩=some (.int .i64 vn):=(hk2.cell (p:=⟨wr.heap.size,3,none⟩) (by simp) hTne).trans (by simp [go_sem])
   have e4:w2.cell? ⟨wr.heap.size,4,none⟩=some (.int .i64 vd):=(hk2.cell (p:=⟨wr.heap.size,4,none⟩) (by simp) hTne).trans (by simp [go_sem])
   have e5:w2.cell? ⟨wr.heap.size,5,none⟩=some (.string vs):=(hk2.cell (p:=⟨wr.heap.size,5,none⟩) (by simp) hTne).trans (by simp [go_sem])
   have e6:w2.cell? ⟨wr.heap.size,6,none⟩=some (.slice pu nu cu):=(hk2.cell (p:=⟨wr.heap.size,6,none⟩) (by simp) hTne).trans (by simp [go_sem])
   have hK2:KeepT T w w2:=hK.trans ((KeepT.of ((Below.refl _ _).alloc (Nat.le_refl _) _)).trans hk2)
   have hz2:wr.heap.size<w2.heap.size:=by have:=hk2.size;simp at this;omega
   have HT2:Hid (Tal T Q1 w2):=ht2
   clear hk2 ht2 a0 a1 a2 a3 a4 a5 a6 cM
   by_cases hE1:E1=0
   case neg=>
    have hE1':(E1==0)=false:=by simp [hE1]
    have hE1'':(E1 != 0)=true:=by simp [hE1]
    have hE1''':¬ E1=0:=hE1
    have hR:Hid (R=(E1,q)):=by
     have h:=hr2.out
     have h2:=HTE.out
     rw [if_neg hE1] at h2
     rw [h2,if_neg hE1] at h
     exact h
    have hQ:=HMS.out hE1
    subst hQ
    go_wp2
    go_ret
    rw [hR.out]
    exact ⟨rfl,hK2,HT2.out⟩
   have HTE2:Hid (TR=if E2=0 then TS else (E2,Q1)):=by have h:=HTE.out;rwa [if_pos hE1] at h
   have cR2:Hid (∀ W:World,Below w0.heap.size w0 W→Tal T Q1 W→Calls Tryz.prog 103 #[.pointer (some ⟨T,0,none⟩),.int .i64 (dep+1),.slice pu nu cu] W fun r w'=>r=.returned (.int .i64 TS.1)∧KeepT T W w'∧Tal T TS.2 w'):=fun W a b=>cR.out W a b hE1
   clear HTE cR HMS
   subst hE1
   have hB2:Below w0.heap.size w0 w2:=hw.trans (hK2.below hT0 (Nat.le_of_lt hTw))
   go_wp2_with fail
   refine (cC.out _).mono ?_
   rintro r w3 ⟨rfl,hb3⟩
   have g6:=(hb3.cell (p:=⟨wr.heap.size,6,none⟩) hz2).trans e6
   have hK3:KeepT T w w3:=hK2.trans (KeepT.of hb3)
   have HT3:Hid (Tal T Q1 w3):=HT2.out.below hb3
   have hB3:Below w0.heap.size w0 w3:=hw.trans (hK3.below hT0 (Nat.le_of_lt hTw))
   clear cC e0 e1 e2 e3 e4 e5 e6 hb3 HT2 hB2
   by_cases hE2:E2=0
   case neg=>
    have hE2':(E2==0)=false:=by simp [hE2]
    have hE2'':(E2 != 0)=true:=by simp [hE2]
    have hE2''':¬ E2=0:=hE2
    have hR:Hid (R=(E2,Q1)):=by
     have h:=hr2.out
     have h2:=HTE2.out
     rw [if_neg hE2] at h2
     rw [h2,if_neg hE2] at h
     exact h
    go_wp2
    go_ret
    rw [hR.out]
    exact ⟨rfl,hK3,HT3.out⟩
   have hTR:Hid (TR=TS):=by have h2:=HTE2.out;rwa [if_pos hE2] at h2
   subst hE2
   have ctR:=cR2.out w3 hB3 HT3.out
   clear cR2 HTE2
   obtain ⟨E3,Q3⟩:=TS
   dsimp only at ctR HO2
   have CTR:Hid (Calls Tryz.prog 103 #[.pointer (some ⟨T,0,none⟩),.int .i64 (dep+1),.slice pu nu cu] w3 fun r w'=>r=.returned (.int .i64 E3)∧KeepT T w3 w'∧Tal T Q3 w'):=ctR
   clear ctR
   go_wp2_with fail
   refine CTR.out.mono ?_
   rintro r w4 ⟨rfl,hk4,ht4⟩
   have hK4:KeepT T w w4:=hK3.trans hk4
   have HT4:Hid (Tal T Q3 w4):=ht4
   clear CTR hk4 ht4 g6
   by_cases hE3:E3=0
   case neg=>
    have hE3'':(E3 != 0)=true:=by simp [hE3]
    have hE3''':¬ E3=0:=hE3
    have hR:Hid (R=(E3,Q3)):=by
     have h:=hr2.out
     rw [hTR.out,if_neg hE3] at h
     exact h
    go_wp2
    go_ret
    rw [hR.out]
    exact ⟨rfl,hK4,HT4.out⟩
   have hR:Hid (R=truns dep Q3 (ts.drop (k+1))):=by
    have h:=hr2.out
    rw [hTR.out,if_pos hE3] at h
    exact h
   clear hTR hr2
   subst hE3
   go_wp2
   exact ⟨⟨k+1,Q3,by omega,by go_num,hR,hK4,HT4,HO2⟩,by simp [intOf];omega⟩
def opB (op:Int) (used:Bool):Bool:=if used=true then decide (1≤op∧op≤6) else op==0
theorem isop_any (op:Int) (b:Bool) (w:World):
  Calls Tryz.prog 144 #[.int .i64 op,.bool b] w fun r w'=>r=.returned (.bool (opB op b))∧w'=w:=by
 cases b with
 | false=>
  have e:opB op false=(op==0):=rfl
  rw [e]
  go_enter Tryz.func144,Tryz.ntmps144
  go_wp2
  go_ret
  exact ⟨by first | rfl | simp,rfl⟩
 | true=>
  have e:opB op true=decide (1≤op∧op≤6):=rfl
  rw [e]
  by_cases h1:1≤op
  ·by_cases h2:op≤6
   ·rw [decide_eq_true (show 1≤op∧op≤6 from ⟨h1,h2⟩)]
    go_enter Tryz.func144,Tryz.ntmps144
    go_wp2
    go_ret
    exact ⟨by first | rfl | simp,rfl⟩
   ·rw [decide_eq_false (show ¬ (1≤op∧op≤6) from fun h=>h2 h.2)]
    go_enter Tryz.func144,Tryz.ntmps144
    go_wp2
    go_ret
    exact ⟨by first | rfl | simp,rfl⟩
  ·rw [decide_eq_false (show ¬ (1≤op∧op≤6) from fun h=>h1 h.1)]
   go_enter Tryz.func144,Tryz.ntmps144
   go_wp2
   go_ret
   exact ⟨by first | rfl | simp,rfl⟩
def itvU (lo hi:Int) (o:Bool):Bool:=if lo<0∨1099511627776<lo then false else if o=true then hi==0 else decide (lo≤hi∧hi≤1099511627776)
def itvZ (lo hi:Int) (o:Bool):Bool:=lo==0 && (hi==0 && o==false)
def itvB (lo hi:Int) (o:Bool) (used:Bool):Bool:=if used=true then itvU lo hi o else itvZ lo hi o
theorem isiv_any (lo hi:Int) (o b:Bool) (w:World):
  Calls Tryz.prog 145 #[.agg #[.int .i64 lo,.int .i64 hi,.bool o],.bool b] w fun r w'=>r=.returned (.bool (itvB lo hi o b))∧Below w.heap.size w w':=by
 cases b with
 | false=>
  have e:itvB lo hi o false=(lo==0 && (hi==0 && o==false)):=rfl
  rw [e]
  by_cases h1:lo=0
  ·subst h1
   by_cases h2:hi=0
   ·subst h2
    cases o<;>
    ·go_enter Tryz.func145,Tryz.ntmps145
     go_wp2
     go_ret
     exact ⟨by first | rfl | simp,by go_grown⟩
   ·have h2':(hi==0)=false:=by simp [h2]
    rw [h2']
    cases o<;>
    ·go_enter Tryz.func145,Tryz.ntmps145
     go_wp2
     go_ret
     exact ⟨by first | rfl | simp,by go_grown⟩
  ·have h1':(lo==0)=false:=by simp [h1]
   rw [h1']
   cases o<;>
   ·go_enter Tryz.func145,Tryz.ntmps145
    go_wp2
    go_ret
    exact ⟨by first | rfl | simp,by go_grown⟩
 | true=>
  have e:itvB lo hi o true=if lo<0∨1099511627776<lo then false else if o=true then hi==0 else decide (lo≤hi∧hi≤1099511627776):=rfl
  rw [e]
  by_cases h1:lo<0
  ·rw [if_pos (Or.inl h1)]
   go_enter Tryz.func145,Tryz.ntmps145
   go_wp2
   go_ret
   exact ⟨by first | rfl | simp,by go_grown⟩
  by_cases h2:1099511627776<lo
  ·rw [if_pos (Or.inr h2)]
   go_enter Tryz.func145,Tryz.ntmps145
   go_wp2
   go_ret
   exact ⟨by first | rfl | simp,by go_grown⟩
  rw [if_neg (by omega)]
  cases o with
  | true=>
   rw [if_pos rfl]
   go_enter Tryz.func145,Tryz.ntmps145
   go_wp2
   go_ret
   exact ⟨by first | rfl | simp,by go_grown⟩
  | false=>
   rw [if_neg (by decide)]
   by_cases h3:lo≤hi
   ·by_cases h4:hi≤1099511627776
    ·rw [decide_eq_true (show lo≤hi∧hi≤1099511627776 from ⟨h3,h4⟩)]
     go_enter Tryz.func145,Tryz.ntmps145
     go_wp2
     go_ret
     exact ⟨by first | rfl | simp,by go_grown⟩
    ·rw [decide_eq_false (show ¬ (lo≤hi∧hi≤1099511627776) from fun h=>h4 h.2)]
     go_enter Tryz.func145,Tryz.ntmps145
     go_wp2
     go_ret
     exact ⟨by first | rfl | simp,by go_grown⟩
   ·rw [decide_eq_false (show ¬ (lo≤hi∧hi≤1099511627776) from fun h=>h3 h.1)]
    go_enter Tryz.func145,Tryz.ntmps145
    go_wp2
    go_ret
    exact ⟨by first | rfl | simp,by go_grown⟩
def manyB (k:Int) (nv nt:Nat):Bool:=if k=3 then decide (6<nt) else if k=20∨k=21 then decide (6<nv) else if k=10∨k=19 then decide (8<nv) else false
theorem dec_lt (a n:Nat):decide ((a:Int)<(n:Int))=decide (a<n):=by
 by_cases h:a<n
 ·rw [decide_eq_true h,decide_eq_true (by omega)]
 ·rw [decide_eq_false h,decide_eq_false (by omega)]
theorem toomany_any (k op lo hi:Int) (nm:ByteArray) (o:Bool) (pv pt ps pr:Option Addr) (nv cv nt ct ns cs nr cr:Nat) (w:World):
  Calls Tryz.prog 127 #[.agg #[.int .i64 k,.string nm,.int .i64 op,.slice pv nv cv,.slice pt nt ct,.int .i64 lo,.int .i64 hi,.bool o,.slice ps ns cs,.slice pr nr cr]] w fun r w'=>r=.returned (.bool (manyB k nv nt))∧Below w.heap.size w w':=by
 have hv6:=dec_lt 6 nv
 have hv8:=dec_lt 8 nv
 have ht6:=dec_lt 6 nt
 obtain ⟨R,eR⟩:∃ R:Bool,Hid (manyB k nv nt=R):=⟨_,rfl⟩
 rw [eR.out]
 have hR:Hid (R=if k=3 then decide (6<nt) else if k=20∨k=21 then decide (6<nv) else if k=10∨k=19 then decide (8<nv) else false):=eR.out.symm
 clear eR
 by_cases h3:k=3
 ·have hR2:Hid (R=decide (6<nt)):=by have h:=hR.out;rwa [if_pos h3] at h
  subst h3
  rw [hR2.out]
  go_enter Tryz.func127,Tryz.ntmps127
  go_wp2
  go_ret
  exact ⟨by first | rfl | (simp;done) | (simp;omega),by go_grown⟩
 by_cases h20:k=20∨k=21
 ·have hR2:Hid (R=decide (6<nv)):=by have h:=hR.out;rwa [if_neg h3,if_pos h20] at h
  rw [hR2.out]
  rcases h20 with rfl | rfl<;>
  ·go_enter Tryz.func127,Tryz.ntmps127
   go_wp2
   go_ret
   exact ⟨by first | rfl | (simp;done) | (simp;omega),by go_grown⟩
 by_cases h10:k=10∨k=19
 ·have hR2:Hid (R=decide (8<nv)):=by have h:=hR.out;rwa [if_neg h3,if_neg h20,if_pos h10] at h
  rw [hR2.out]
  rcases h10 with rfl | rfl<;>
  ·go_enter Tryz.func127,Tryz.ntmps127
   go_wp2
   go_ret
   exact ⟨by first | rfl | (simp;done) | (simp;omega),by go_grown⟩
 have hR2:Hid (R=false):=by have h:=hR.out;rwa [if_neg h3,if_neg h20,if_neg h10] at h
 rw [hR2.out]
 have k3:(k==3)=false:=by simp;omega
 have k20:(k==20)=false:=by simp;omega
 have k21:(k==21)=false:=by simp;omega
 have k10:(k==10)=false:=by simp;omega
 have k19:(k==19)=false:=by simp;omega
 go_enter Tryz.func127,Tryz.ntmps127
 go_wp2
 go_ret
 exact ⟨by first | rfl | (simp;done) | (simp;omega),by go_grown⟩
def rxE (r:Rx):Int:=if r.k<1∨5<r.k then 20 else if r.test.length≠(if r.k=2 then 1 else 0)∨r.subs.length≠(if r.k=3∨r.k=4 then 2 else if r.k=5 then 1 else 0) then 1 else 0
theorem NmsAt.form {w:World} {v:Value} {vs:List ByteArray} (h:NmsAt w v vs):∃ p c,v=.slice p vs.length c∧vs.length≤9223372036854775807∧vs.length≤c∧∀ i (hi:i<vs.length),∃ b off,p=some ⟨b,off,none⟩∧b<w.heap.size∧w.cell? ⟨b,off+i,none⟩=some (.string vs[i]):=by
 obtain ⟨hl,p,c,e,hc,h | ⟨b,off,h1,h2,h3⟩⟩:=h
 ·exact ⟨p,c,e,hl,hc,fun i hi=>by subst h;simp at hi⟩
 ·exact ⟨p,c,e,hl,hc,fun i hi=>⟨b,off,h1,h2,h3 i hi⟩⟩
def namesB:List ByteArray→Bool
 | []=>true
 | x::l=>nameB x && namesB l
theorem anames_any (V:Value) (vs:List ByteArray) (w:World) (hV:NmsAt w V vs):
  Calls Tryz.prog 142 #[V] w fun r w'=>r=.returned (.bool (namesB vs))∧w'=w:=by
 have cN:Hid (∀ (X:ByteArray) (W:World),Calls Tryz.prog 162 #[.string X] W fun e w'=>e=.returned (.bool (nameB X))∧w'=W):=fun X W=>name_any X W
 obtain ⟨p,c,rfl,hl, -,HX0⟩:=hV.form
 have HX:Hid (∀ i (hi:i<vs.length),∃ b off,p=some ⟨b,off,none⟩∧b<w.heap.size∧w.cell? ⟨b,off+i,none⟩=some (.string vs[i])):=HX0
 clear hV HX0
 obtain ⟨R,eR⟩:∃ R:Bool,Hid (namesB vs=R):=⟨_,rfl⟩
 obtain ⟨n,en⟩:∃ n:Nat,Hid (vs.length=n):=⟨_,rfl⟩
 rw [eR.out,en.out]
 rw [en.out] at hl
 go_enter Tryz.func142,Tryz.ntmps142
 go_wp2
 go_loop [7] (fun i=>∃ k:Nat,k≤n∧i=.int .i64 k∧Hid (R=namesB (vs.drop k))) (fun i=>n - (intOf i).toNat)
 case atStart=>exact ⟨0,Nat.zero_le _,rfl,by rw [List.drop_zero];exact eR.out.symm⟩
 case round=>
  obtain ⟨k,hk,rfl,hr⟩:=hrel
  by_cases hlt:k<n
  ·have kx:k<vs.length:=by have:=en.out;omega
   obtain ⟨b,off,rfl,hb,r0⟩:=HX.out k kx
   have hlt':(k:Int)<n:=by omega
   have hr2:Hid (R=(nameB vs[k] && namesB (vs.drop (k+1)))):=by
    have h:=hr.out
    rw [List.drop_eq_getElem_cons kx] at h
    exact h
   clear hr
   generalize vs[k]=X at r0 hr2
   have cN1:Hid (∀ W:World,Calls Tryz.prog 162 #[.string X] W fun e w'=>e=.returned (.bool (nameB X))∧w'=W):=fun W=>cN.out X W
   generalize nameB X=NB at cN1 hr2
   cases NB with
   | false=>
    have hr3:Hid (R=false):=by have h:=hr2.out;unfold Hid;simpa using h
    go_wp2_with fail
    refine (cN1.out _).mono ?_
    rintro e w2 ⟨rfl,rfl⟩
    clear cN1
    go_wp2
    go_ret
    rw [hr3.out]
    exact ⟨rfl,rfl⟩
   | true=>
    have hr3:Hid (R=namesB (vs.drop (k+1))):=by have h:=hr2.out;unfold Hid;simpa using h
    go_wp2_with fail
    refine (cN1.out _).mono ?_
    rintro e w2 ⟨rfl,rfl⟩
    clear cN1
    go_wp2
    exact ⟨⟨k+1,by omega,by go_num,hr3⟩,by simp [intOf];omega⟩
  ·have c2:¬ (k:Int)<n:=by omega
   have hr3:Hid (R=true):=by
    have h:=hr.out
    rw [List.drop_eq_nil_of_le (by have:=en.out;omega)] at h
    exact h
   go_wp2
   go_ret
   rw [hr3.out]
   exact ⟨rfl,rfl⟩
theorem takes_any (a b n:Int) (w:World):
  Calls Tryz.prog 141 #[.agg #[.int .i64 a,.int .i64 b],.int .i64 n] w fun r w'=>r=.returned (.bool (decide (a≤n∧n≤b)))∧Below w.heap.size w w':=by
 by_cases h1:a≤n
 ·by_cases h2:n≤b
  ·rw [decide_eq_true (show a≤n∧n≤b from ⟨h1,h2⟩)]
   go_enter Tryz.func141,Tryz.ntmps141
   go_wp2
   go_ret
   exact ⟨by first | rfl | simp,by go_grown⟩
  ·rw [decide_eq_false (show ¬ (a≤n∧n≤b) from fun h=>h2 h.2)]
   go_enter Tryz.func141,Tryz.ntmps141
   go_wp2
   go_ret
   exact ⟨by first | rfl | simp,by go_grown⟩
 ·rw [decide_eq_false (show ¬ (a≤n∧n≤b) from fun h=>h1 h.1)]
  go_enter Tryz.func141,Tryz.ntmps141
  go_wp2
  go_ret
  exact ⟨by first | rfl | simp,by go_grown⟩
structure Frm where
 nm:Bool
 op:Bool
 iv:Bool
 vl:Int
 vm:Int
 tl:Int
 tm:Int
 sl:Int
 sm:Int
 rl:Int
 rm:Int
def Frm.val (f:Frm):Value:=.agg #[.bool f.nm,.bool f.op,.bool f.iv,.int .i64 f.vl,.int .i64 f.vm,.int .i64 f.tl,.int .i64 f.tm,.int .i64 f.sl,.int .i64 f.sm,.int .i64 f.rl,.int .i64 f.rm]
def frm (k:Int):Frm:=if k=1 then ⟨false,false,false,0,0,0,0,0,0,0,0⟩ else if k=2 then ⟨false,false,false,0,0,0,0,0,0,0,0⟩ else if k=3 then ⟨true,false,false,0,0,0,6,0,0,0,0⟩ else if k=4 then ⟨false,false,false,0,0,2,2,0,0,0,0⟩ else if k=5 then ⟨false,false,false,0,0,2,2,0,0,0,0⟩ else if k=6 then ⟨false,false,false,0,0,2,2,0,0,0,0⟩ else if k=7 then ⟨false,false,false,0,0,0,0,1,1,0,0⟩ else if k=8 then ⟨false,false,false,0,0,0,0,2,2,0,0⟩ else if k=9 then ⟨false,false,false,0,0,0,0,2,2,0,0⟩ else if k=10 then ⟨false,false,false,1,8,0,0,1,1,0,0⟩ else if k=11 then ⟨false,false,true,0,0,0,0,1,1,0,0⟩ else if k=12 then ⟨false,false,true,0,0,0,0,1,1,0,0⟩ else if k=13 then ⟨false,false,true,0,0,0,0,1,1,0,0⟩ else if k=14 then ⟨false,false,true,0,0,0,0,1,1,0,0⟩ else if k=15 then ⟨false,false,true,0,0,0,0,2,2,0,0⟩ else if k=16 then ⟨false,false,true,0,0,0,0,2,2,0,0⟩ else if k=17 then ⟨false,false,true,0,0,0,0,0,0,1,1⟩ else if k=18 then ⟨false,false,true,0,0,0,0,0,0,1,1⟩ else if k=19 then ⟨true,true,false,1,8,0,0,1,1,0,0⟩ else if k=20 then ⟨true,false,false,0,6,0,0,2,2,0,0⟩ else if k=21 then ⟨true,false,false,0,6,0,0,2,2,0,0⟩ else ⟨false,false,false,0,0,0,0,1,9223372036854775807,0,0⟩
theorem formof_1 (w:World):Calls Tryz.prog 140 #[.int .i64 1] w fun r w'=>r=.returned (.agg #[.bool false,.bool false,.bool false,.int .i64 0,.int .i64 0,.int .i64 0,.int .i64 0,.int .i64 0,.int .i64 0,.int .i64 0,.int .i64 0])∧Below w.heap.size w w':=by
 go_enter Tryz.func140,Tryz.ntmps140
 go_wp2
 refine bodyPost_ret (by simp [results,Tryz.results140,go_sem];try rfl) rfl ?_
 exact ⟨rfl,by go_grown⟩
theorem formof_2 (w:World):Calls Tryz.prog 140 #[.int .i64 2] w fun r w'=>r=.returned (.agg #[.bool false,.bool false,.bool false,.int .i64 0,.int .i64 0,.int .i64 0,.int .i64 0,.int .i64 0,.int .i64 0,.int .i64 0,.int .i64 0])∧Below w.heap.size w w':=by
 go_enter Tryz.func140,Tryz.ntmps140
 go_wp2
 refine bodyPost_ret (by simp [results,Tryz.results140,go_sem];try rfl) rfl ?_
 exact ⟨rfl,by go_grown⟩
theorem formof_3 (w:World):Calls Tryz.prog 140 #[.int .i64 3] w fun r w'=>r=.returned (.agg #[.bool true,.bool false,.bool false,.int .i64 0,.int .i64 0,.int .i64 0,.int .i64 6,.int .i64 0,.int .i64 0,.int .i64 0,.int .i64 0])∧Below w.heap.size w w':=by
 go_enter Tryz.func140,Tryz.ntmps140
 go_wp2
 refine bodyPost_ret (by simp [results,Tryz.results140,go_sem];try rfl) rfl ?_
 exact ⟨rfl,by go_grown⟩
theorem formof_4 (w:World):Calls Tryz.prog 140 #[.int .i64 4] w fun r w'=>r=.returned (.agg #[.bool false,.bool false,.bool false,.int .i64 0,.int .i64 0,.int .i64 2,.int .i64 2,.int .i64 0,.int .i64 0,.int .i64 0,.int .i64 0])∧Below w.heap.size w w':=by
 go_enter Tryz.func140,Tryz.ntmps140
 go_wp2
 refine bodyPost_ret (by simp [results,Tryz.results140,go_sem];try rfl) rfl ?_
 exact ⟨rfl,by go_grown⟩
theorem formof_5 (w:World):Calls Tryz.prog 140 #[.int .i64 5] w fun r w'=>r=.returned (.agg #[.bool false,.bool false,.bool false,.int .i64 0,.int .i64 0,.int .i64 2,.int .i64 2,.int .i64 0,.int .i64 0,.int .i64 0,.int .i64 0])∧Below w.heap.size w w':=by
 go_enter Tryz.func140,Tryz.ntmps140
 go_wp2
 refine bodyPost_ret (by simp [results,Tryz.results140,go_sem];try rfl) rfl ?_
 exact ⟨rfl,by go_grown⟩
theorem formof_6 (w:World):Calls Tryz.prog 140 #[.int .i64 6] w fun r w'=>r=.returned (.agg #[.bool false,.bool false,.bool false,.int .i64 0,.int .i64 0,.int .i64 2,.int .i64 2,.int .i64 0,.int .i64 0,.int .i64 0,.int .i64 0])∧Below w.heap.size w w':=by
 go_enter Tryz.func140,Tryz.ntmps140
 go_wp2
 refine bodyPost_ret (by simp [results,Tryz.results140,go_sem];try rfl) rfl ?_
 exact ⟨rfl,by go_grown⟩
theorem formof_7 (w:World):Calls Tryz.prog 140 #[.int .i64 7] w fun r w'=>r=.returned (.agg #[.bool false,.bool false,.bool false,.int .i64 0,.int .i64 0,.int .i64 0,.int .i64 0,.int .i64 1,.int .i64 1,.int .i64 0,.int .i64 0])∧Below w.heap.size w w':=by
 go_enter Tryz.func140,Tryz.ntmps140
 go_wp2
 refine bodyPost_ret (by simp [results,Tryz.results140,go_sem];try rfl) rfl ?_
 exact ⟨rfl,by go_grown⟩
theorem formof_8 (w:World):Calls Tryz.prog 140 #[.int .i64 8] w fun r w'=>r=.returned (.agg #[.bool false,.bool false,.bool false,.int .i64 0,.int .i64 0,.int .i64 0,.int .i64 0,.int .i64 2,.int .i64 2,.int .i64 0,.int .i64 0])∧Below w.heap.size w w':=by
 go_enter Tryz.func140,Tryz.ntmps140
 go_wp2
 refine bodyPost_ret (by simp [results,Tryz.results140,go_sem];try rfl) rfl ?_
 exact ⟨rfl,by go_grown⟩
theorem formof_9 (w:World):Calls Tryz.prog 140 #[.int .i64 9] w fun r w'=>r=.returned (.agg #[.bool false,.bool false,.bool false,.int .i64 0,.int .i64 0,.int .i64 0,.int .i64 0,.int .i64 2,.int .i64 2,.int .i64 0,.int .i64 0])∧Below w.heap.size w w':=by
 go_enter Tryz.func140,Tryz.ntmps140
 go_wp2
 refine bodyPost_ret (by simp [results,Tryz.results140,go_sem];try rfl) rfl ?_
 exact ⟨rfl,by go_grown⟩
theorem formof_10 (w:World):Calls Tryz.prog 140 #[.int .i64 10] w fun r w'=>r=.returned (.agg #[.bool false,.bool false,.bool false,.int .i64 1,.int .i64 8,.int .i64 0,.int .i64 0,.int .i64 1,.int .i64 1,.int .i64 0,.int .i64 0])∧Below w.heap.size w w':=by
 go_enter Tryz.func140,Tryz.ntmps140
 go_wp2
 refine bodyPost_ret (by simp [results,Tryz.results140,go_sem];try rfl) rfl ?_
 exact ⟨rfl,by go_grown⟩
theorem formof_11 (w:World):Calls Tryz.prog 140 #[.int .i64 11] w fun r w'=>r=.returned (.agg #[.bool false,.bool false,.bool true,.int .i64 0,.int .i64 0,.int .i64 0,.int .i64 0,.int .i64 1,.int .i64 1,.int .i64 0,.int .i64 0])∧Below w.heap.size w w':=by
 go_enter Tryz.func140,Tryz.ntmps140
 go_wp2
 refine bodyPost_ret (by simp [results,Tryz.results140,go_sem];try rfl) rfl ?_
 exact ⟨rfl,by go_grown⟩
theorem formof_12 (w:World):Calls Tryz.prog 140 #[.int .i64 12] w fun r w'=>r=.returned (.agg #[.bool false,.bool false,.bool true,.int .i64 0,.int .i64 0,.int .i64 0,.int .i64 0,.int .i64 1,.int .i64 1,.int .i64 0,.int .i64 0])∧Below w.heap.size w w':=by
 go_enter Tryz.func140,Tryz.ntmps140
 go_wp2
 refine bodyPost_ret (by simp [results,Tryz.results140,go_sem];try rfl) rfl ?_
 exact ⟨rfl,by go_grown⟩
theorem formof_13 (w:World):Calls Tryz.prog 140 #[.int .i64 13] w fun r w'=>r=.returned (.agg #[.bool false,.bool false,.bool true,.int .i64 0,.int .i64 0,.int .i64 0,.int .i64 0,.int .i64 1,.int .i64 1,.int .i64 0,.int .i64 0])∧Below w.heap.size w w':=by
 go_enter Tryz.func140,Tryz.ntmps140
 go_wp2
 refine bodyPost_ret (by simp [results,Tryz.results140,go_sem];try rfl) rfl ?_
 exact ⟨rfl,by go_grown⟩
theorem formof_14 (w:World):Calls Tryz.prog 140 #[.int .i64 14] w fun r w'=>r=.returned (.agg #[.bool false,.bool false,.bool true,.int .i64 0,.int .i64 0,.int .i64 0,.int .i64 0,.int .i64 1,.int .i64 1,.int .i64 0,.int .i64 0])∧Below w.heap.size w w':=by
 go_enter Tryz.func140,Tryz.ntmps140
 go_wp2
 refine bodyPost_ret (by simp [results,Tryz.results140,go_sem];try rfl) rfl ?_
 exact ⟨rfl,by go_grown⟩
theorem formof_15 (w:World):Calls Tryz.prog 140 #[.int .i64 15] w fun r w'=>r=.returned (.agg #[.bool false,.bool false,.bool true,.int .i64 0,.int .i64 0,.int .i64 0,.int .i64 0,.int .i64 2,.int .i64 2,.int .i64 0,.int .i64 0])∧Below w.heap.size w w':=by
 go_enter Tryz.func140,Tryz.ntmps140
 go_wp2
 refine bodyPost_ret (by simp [results,Tryz.results140,go_sem];try rfl) rfl ?_
 exact ⟨rfl,by go_grown⟩
theorem formof_16 (w:World):Calls Tryz.prog 140 #[.int .i64 16] w fun r w'=>r=.returned (.agg #[.bool false,.bool false,.bool true,.int .i64 0,.int .i64 0,.int .i64 0,.int .i64 0,.int .i64 2,.int .i64 2,.int .i64 0,.int .i64 0])∧Below w.heap.size w w':=by
 go_enter Tryz.func140,Tryz.ntmps140
 go_wp2
 refine bodyPost_ret (by simp [results,Tryz.results140,go_sem];try rfl) rfl ?_
 exact ⟨rfl,by go_grown⟩
theorem formof_17 (w:World):Calls Tryz.prog 140 #[.int .i64 17] w fun r w'=>r=.returned (.agg #[.bool false,.bool false,.bool true,.int .i64 0,.int .i64 0,.int .i64 0,.int .i64 0,.int .i64 0,.int .i64 0,.int .i64 1,.int .i64 1])∧Below w.heap.size w w':=by
 go_enter Tryz.func140,Tryz.ntmps140
 go_wp2
 refine bodyPost_ret (by simp [results,Tryz.results140,go_sem];try rfl) rfl ?_
 exact ⟨rfl,by go_grown⟩
theorem formof_18 (w:World):Calls Tryz.prog 140 #[.int .i64 18] w fun r w'=>r=.returned (.agg #[.bool false,.bool false,.bool true,.int .i64 0,.int .i64 0,.int .i64 0,.int .i64 0,.int .i64 0,.int .i64 0,.int .i64 1,.int .i64 1])∧Below w.heap.size w w':=by
 go_enter Tryz.func140,Tryz.ntmps140
 go_wp2
 refine bodyPost_ret (by simp [results,Tryz.results140,go_sem];try rfl) rfl ?_
 exact ⟨rfl,by go_grown⟩
theorem formof_19 (w:World):Calls Tryz.prog 140 #[.int .i64 19] w fun r w'=>r=.returned (.agg #[.bool true,.bool true,.bool false,.int .i64 1,.int .i64 8,.int .i64 0,.int .i64 0,.int .i64 1,.int .i64 1,.int .i64 0,.int .i64 0])∧Below w.heap.size w w':=by
 go_enter Tryz.func140,Tryz.ntmps140
 go_wp2
 refine bodyPost_ret (by simp [results,Tryz.results140,go_sem];try rfl) rfl ?_
 exact ⟨rfl,by go_grown⟩
theorem formof_20 (w:World):Calls Tryz.prog 140 #[.int .i64 20] w fun r w'=>r=.returned (.agg #[.bool true,.bool false,.bool false,.int .i64 0,.int .i64 6,.int .i64 0,.int .i64 0,.int .i64 2,.int .i64 2,.int .i64 0,.int .i64 0])∧Below w.heap.size w w':=by
 go_enter Tryz.func140,Tryz.ntmps140
 go_wp2
 refine bodyPost_ret (by simp [results,Tryz.results140,go_sem];try rfl) rfl ?_
 exact ⟨rfl,by go_grown⟩
theorem formof_21 (w:World):Calls Tryz.prog 140 #[.int .i64 21] w fun r w'=>r=.returned (.agg #[.bool true,.bool false,.bool false,.int .i64 0,.int .i64 6,.int .i64 0,.int .i64 0,.int .i64 2,.int .i64 2,.int .i64 0,.int .i64 0])∧Below w.heap.size w w':=by
 go_enter Tryz.func140,Tryz.ntmps140
 go_wp2
 refine bodyPost_ret (by simp [results,Tryz.results140,go_sem];try rfl) rfl ?_
 exact ⟨rfl,by go_grown⟩
theorem formof_22 (w:World):Calls Tryz.prog 140 #[.int .i64 22] w fun r w'=>r=.returned (.agg #[.bool false,.bool false,.bool false,.int .i64 0,.int .i64 0,.int .i64 0,.int .i64 0,.int .i64 1,.int .i64 9223372036854775807,.int .i64 0,.int .i64 0])∧Below w.heap.size w w':=by
 go_enter Tryz.func140,Tryz.ntmps140
 go_wp2
 refine bodyPost_ret (by simp [results,Tryz.results140,go_sem];try rfl) rfl ?_
 exact ⟨rfl,by go_grown⟩
theorem formof_any (k:Int) (w:World) (h:1≤k∧k≤22):Calls Tryz.prog 140 #[.int .i64 k] w fun r w'=>r=.returned (frm k).val∧Below w.heap.size w w':=by
 have:k=1∨k=2∨k=3∨k=4∨k=5∨k=6∨k=7∨k=8∨k=9∨k=10∨k=11∨k=12∨k=13∨k=14∨k=15∨k=16∨k=17∨k=18∨k=19∨k=20∨k=21∨k=22:=by omega
 rcases this with rfl | rfl | rfl | rfl | rfl | rfl | rfl | rfl | rfl | rfl | rfl | rfl | rfl | rfl | rfl | rfl | rfl | rfl | rfl | rfl | rfl | rfl
 ·exact formof_1 w
 ·exact formof_2 w
 ·exact formof_3 w
 ·exact formof_4 w
 ·exact formof_5 w
 ·exact formof_6 w
 ·exact formof_7 w
 ·exact formof_8 w
 ·exact formof_9 w
 ·exact formof_10 w
 ·exact formof_11 w
 ·exact formof_12 w
 ·exact formof_13 w
 ·exact formof_14 w
 ·exact formof_15 w
 ·exact formof_16 w
 ·exact formof_17 w
 ·exact formof_18 w
 ·exact formof_19 w
 ·exact formof_20 w
 ·exact formof_21 w
 ·exact formof_22 w
theorem acont_any (U:Value) (us:List ByteArray) (X:ByteArray) (w:World) (h:NmsAt w U us):
  Calls Tryz.prog 79 #[U,.string X] w fun e w'=>e=.returned (.bool (Lib.containsS us X))∧w'=w:=by
 obtain ⟨lu,p,c,rfl,hc,rfl | ⟨b,off,rfl,hb,hs⟩⟩:=h
 ·exact Tryz.slices_Contains_string_empty p c X w
 ·have h:=Tryz.slices_Contains_string b off us.length c us X w (Nat.le_refl _) lu (fun j hj=>by rw [hs j hj];simp [List.getD,hj])
  rwa [List.take_length] at h
theorem NmsAt.take {w:World} {p:Option Addr} {n c:Nat} {vs:List ByteArray} (h:NmsAt w (.slice p n c) vs) (k:Nat) (hk:k≤vs.length):NmsAt w (.slice p k c) (vs.take k):=by
 obtain ⟨hl,p',c',e,hc,h⟩:=h
 injection e with e1 e2 e3
 subst e1 e3
 refine ⟨by rw [List.length_take];omega,p,c,by rw [List.length_take,Nat.min_eq_left hk],by rw [List.length_take];omega, ?_⟩
 rcases h with h | ⟨b,off,h1,h2,h3⟩
 ·exact Or.inl (by rw [h];simp)
 ·refine Or.inr ⟨b,off,h1,h2,fun i hi=> ?_⟩
  rw [List.length_take] at hi
  rw [List.getElem_take]
  exact h3 i (by omega)
def repN (acc:List ByteArray):List ByteArray→Bool
 | []=>false
 | x::l=>Lib.containsS acc x || repN (acc++[x]) l
theorem arep_any (V:Value) (vs:List ByteArray) (w:World) (hV:NmsAt w V vs):
  Calls Tryz.prog 129 #[V] w fun r w'=>r=.returned (.bool (repN [] vs))∧w'=w:=by
 have HV0:=hV
 obtain ⟨p,c,rfl,hl,hc,HX0⟩:=hV.form
 have HX:Hid (∀ i (hi:i<vs.length),∃ b off,p=some ⟨b,off,none⟩∧b<w.heap.size∧w.cell? ⟨b,off+i,none⟩=some (.string vs[i])):=HX0
 have cC:Hid (∀ (k:Nat) (X:ByteArray),k≤vs.length→Calls Tryz.prog 79 #[.slice p k c,.string X] w fun e w'=>e=.returned (.bool (Lib.containsS (vs.take k) X))∧w'=w):=fun k X hk=>acont_any _ _ X w (HV0.take k hk)
 clear hV HX0 HV0
 obtain ⟨R,eR⟩:∃ R:Bool,Hid (repN [] vs=R):=⟨_,rfl⟩
 obtain ⟨n,en⟩:∃ n:Nat,Hid (vs.length=n):=⟨_,rfl⟩
 rw [eR.out,en.out]
 rw [en.out] at hl hc
 go_enter Tryz.func129,Tryz.ntmps129
 go_wp2
 go_loop [7] (fun i=>∃ k:Nat,k≤n∧i=.int .i64 k∧Hid (R=repN (vs.take k) (vs.drop k))) (fun i=>n - (intOf i).toNat)
 case atStart=>exact ⟨0,Nat.zero_le _,rfl,by rw [List.drop_zero];exact eR.out.symm⟩
 case round=>
  obtain ⟨k,hk,rfl,hr⟩:=hrel
  by_cases hlt:k<n
  ·have kx:k<vs.length:=by have:=en.out;omega
   obtain ⟨b,off,rfl,hb,r0⟩:=HX.out k kx
   have hlt':(k:Int)<n:=by omega
   have hkc:(k:Int)≤c:=by omega
   have hr2:Hid (R=(Lib.containsS (vs.take k) vs[k] || repN (vs.take (k+1)) (vs.drop (k+1)))):=by
    have h:=hr.out
    rw [List.drop_eq_getElem_cons kx] at h
    rw [h,List.take_succ_eq_append_getElem kx]
    rfl
   clear hr
   have cC1:=cC.out k vs[k] (by have:=en.out;omega)
   generalize vs[k]=X at r0 hr2 cC1
   generalize Lib.containsS (vs.take k) X=CB at cC1 hr2
   have CC1:Hid (Calls Tryz.prog 79 #[.slice (some ⟨b,off,none⟩) k c,.string X] w fun e w'=>e=.returned (.bool CB)∧w'=w):=cC1
   clear cC1
   cases CB with
   | true=>
    have hr3:Hid (R=true):=by have h:=hr2.out;unfold Hid;simpa using h
    go_wp2_with fail
    refine CC1.out.mono ?_
    rintro e w2 ⟨rfl,rfl⟩
    clear CC1
    go_wp2
    go_ret
    rw [hr3.out]
    exact ⟨rfl,rfl⟩
   | false=>
    have hr3:Hid (R=repN (vs.take (k+1)) (vs.drop (k+1))):=by have h:=hr2.out;unfold Hid;simpa using h
    go_wp2_with fail
    refine CC1.out.mono ?_
    rintro e w2 ⟨rfl,rfl⟩
    clear CC1
    go_wp2
    exact ⟨⟨k+1,by omega,by go_num,hr3⟩,by simp [intOf];omega⟩
  ·have c2:¬ (k:Int)<n:=by omega
   have hr3:Hid (R=false):=by
    have h:=hr.out
    rw [List.drop_eq_nil_of_le (by have:=en.out;omega)] at h
    exact h
   go_wp2
   go_ret
   rw [hr3.out]
   exact ⟨rfl,rfl⟩
def formedM (m:Frm) (op lo hi:Int) (nm:ByteArray) (o:Bool) (vars:List ByteArray) (nt ns nr:Nat):Bool:=decide (m.vl≤(vars.length:Int)∧(vars.length:Int)≤m.vm) && (decide (m.tl≤(nt:Int)∧(nt:Int)≤m.tm) && (decide (m.sl≤(ns:Int)∧(ns:Int)≤m.sm) && (decide (m.rl≤(nr:Int)∧(nr:Int)≤m.rm) && (namesB vars && ((if m.nm=true then nameB nm else nm.toList==[]) && (opB op m.op && itvB lo hi o m.iv))))))
theorem formed_any (k op lo hi:Int) (nm:ByteArray) (o:Bool) (V:Value) (vars:List ByteArray) (pt ps pr:Option Addr) (nt ct ns cs nr cr:Nat) (w:World) (hV:NmsAt w V vars) (hk:1≤k∧k≤22):
  Calls Tryz.prog 128 #[.agg #[.int .i64 k,.string nm,.int .i64 op,V,.slice pt nt ct,.int .i64 lo,.int .i64 hi,.bool o,.slice ps ns cs,.slice pr nr cr]] w fun r w'=>r=.returned (.bool (formedM (frm k) op lo hi nm o vars nt ns nr))∧Below w.heap.size w w':=by
 have cF:Hid (∀ W:World,Calls Tryz.prog 140 #[.int .i64 k] W fun r w'=>r=.returned (frm k).val∧Below W.heap.size W w'):=fun W=>formof_any k W hk
 have cT:Hid (∀ (a b n:Int) (W:World),Calls Tryz.prog 141 #[.agg #[.int .i64 a,.int .i64 b],.int .i64 n] W fun r w'=>r=.returned (.bool (decide (a≤n∧n≤b)))∧Below W.heap.size W w'):=fun a b n W=>takes_any a b n W
 have cA:Hid (∀ W:World,Below w.heap.size w W→Calls Tryz.prog 142 #[V] W fun r w'=>r=.returned (.bool (namesB vars))∧w'=W):=fun W hW=>anames_any V vars W (hV.below hW)
 have cM:Hid (∀ (b:Bool) (W:World),Calls Tryz.prog 143 #[.string nm,.bool b] W fun r w'=>r=.returned (.bool (if b=true then nameB nm else nm.toList==[]))∧w'=W):=fun b W=>named_any nm b W
 have cO:Hid (∀ (b:Bool) (W:World),Calls Tryz.prog 144 #[.int .i64 op,.bool b] W fun r w'=>r=.returned (.bool (opB op b))∧w'=W):=fun b W=>isop_any op b W
 have cI:Hid (∀ (b:Bool) (W:World),Calls Tryz.prog 145 #[.agg #[.int .i64 lo,.int .i64 hi,.bool o],.bool b] W fun r w'=>r=.returned (.bool (itvB lo hi o b))∧Below W.heap.size W w'):=fun b W=>isiv_any lo hi o b W
 generalize frm k=m at*
 obtain ⟨pv,cv,rfl, -⟩:=hV.form
 obtain ⟨nv,env⟩:∃ n:Nat,Hid (vars.length=n):=⟨_,rfl⟩
 have hR:Hid (formedM m op lo hi nm o vars nt ns nr=(decide (m.vl≤(nv:Int)∧(nv:Int)≤m.vm) && (decide (m.tl≤(nt:Int)∧(nt:Int)≤m.tm) && (decide (m.sl≤(ns:Int)∧(ns:Int)≤m.sm) && (decide (m.rl≤(nr:Int)∧(nr:Int)≤m.rm) && (namesB vars && ((if m.nm=true then nameB nm else nm.toList==[]) && (opB op m.op && itvB lo hi o m.iv)))))))):=by
  unfold Hid formedM
  rw [env.out]
 rw [env.out] at cA ⊢
 generalize formedM m op lo hi nm o vars nt ns nr=R at*
 have c1:Hid (∀ W:World,Calls Tryz.prog 141 #[.agg #[.int .i64 m.vl,.int .i64 m.vm],.int .i64 nv] W fun r w'=>r=.returned (.bool (decide (m.vl≤(nv:Int)∧(nv:Int)≤m.vm)))∧Below W.heap.size W w'):=fun W=>cT.out _ _ _ W
 have c2:Hid (∀ W:World,Calls Tryz.prog 141 #[.agg #[.int .i64 m.tl,.int .i64 m.tm],.int .i64 nt] W fun r w'=>r=.returned (.bool (decide (m.tl≤(nt:Int)∧(nt:Int)≤m.tm)))∧Below W.heap.size W w'):=fun W=>cT.out _ _ _ W
 have c3:Hid (∀ W:World,Calls Tryz.prog 141 #[.agg #[.int .i64 m.sl,.int .i64 m.sm],.int .i64 ns] W fun r w'=>r=.returned (.bool (decide (m.sl≤(ns:Int)∧(ns:Int)≤m.sm)))∧Below W.heap.size W w'):=fun W=>cT.out _ _ _ W
 have c4:Hid (∀ W:World,Calls Tryz.prog 141 #[.agg #[.int .i64 m.rl,.int .i64 m.rm],.int .i64 nr] W fun r w'=>r=.returned (.bool (decide (m.rl≤(nr:Int)∧(nr:Int)≤m.rm)))∧Below W.heap.size W w'):=fun W=>cT.out _ _ _ W
 have c6:Hid (∀ W:World,Calls Tryz.prog 143 #[.string nm,.bool m.nm] W fun r w'=>r=.returned (.bool (if m.nm=true then nameB nm else nm.toList==[]))∧w'=W):=fun W=>cM.out m.nm W
 have c7:Hid (∀ W:World,Calls Tryz.prog 144 #[.int .i64 op,.bool m.op] W fun r w'=>r=.returned (.bool (opB op m.op))∧w'=W):=fun W=>cO.out m.op W
 have c8:Hid (∀ W:World,Calls Tryz.prog 145 #[.agg #[.int .i64 lo,.int .i64 hi,.bool o],.bool m.iv] W fun r w'=>r=.returned (.bool (itvB lo hi o m.iv))∧Below W.heap.size W w'):=fun W=>cI.out m.iv W
 clear cT cM cO cI hV
 generalize decide (m.vl≤(nv:Int)∧(nv:Int)≤m.vm)=b1 at*
 generalize decide (m.tl≤(nt:Int)∧(nt:Int)≤m.tm)=b2 at*
 generalize decide (m.sl≤(ns:Int)∧(ns:Int)≤m.sm)=b3 at*
 generalize decide (m.rl≤(nr:Int)∧(nr:Int)≤m.rm)=b4 at*
 generalize namesB vars=b5 at*
 generalize (if m.nm=true then nameB nm else nm.toList==[])=b6 at*
 generalize opB op m.op=b7 at*
 generalize itvB lo hi o m.iv=b8 at*
 unfold Frm.val at cF
 obtain ⟨mnm,mop,miv,mvl,mvm,mtl,mtm,msl,msm,mrl,mrm⟩:=m
 dsimp only at cF c1 c2 c3 c4 c6 c7 c8
 go_enter Tryz.func128,Tryz.ntmps128
 go_wp2_with fail
 refine (cF.out _).mono ?_
 rintro r w1 ⟨rfl,hb1⟩
 have x0:w1.cell? ⟨w.heap.size,0,none⟩=some (.int .i64 k):=(hb1.cell (p:=⟨w.heap.size,0,none⟩) (by simp)).trans (by simp [go_sem])
 have x1:w1.cell? ⟨w.heap.size,1,none⟩=some (.string nm):=(hb1.cell (p:=⟨w.heap.size,1,none⟩) (by simp)).trans (by simp [go_sem])
 have x2:w1.cell? ⟨w.heap.size,2,none⟩=some (.int .i64 op):=(hb1.cell (p:=⟨w.heap.size,2,none⟩) (by simp)).trans (by simp [go_sem])
 have x3:w1.cell? ⟨w.heap.size,3,none⟩=some (.slice pv nv cv):=(hb1.cell (p:=⟨w.heap.size,3,none⟩) (by simp)).trans (by simp [go_sem])
 have x4:w1.cell? ⟨w.heap.size,4,none⟩=some (.slice pt nt ct):=(hb1.cell (p:=⟨w.heap.size,4,none⟩) (by simp)).trans (by simp [go_sem])
 have x5:w1.cell? ⟨w.heap.size,5,none⟩=some (.int .i64 lo):=(hb1.cell (p:=⟨w.heap.size,5,none⟩) (by simp)).trans (by simp [go_sem])
 have x6:w1.cell? ⟨w.heap.size,6,none⟩=some (.int .i64 hi):=(hb1.cell (p:=⟨w.heap.size,6,none⟩) (by simp)).trans (by simp [go_sem])
 have x7:w1.cell? ⟨w.heap.size,7,none⟩=some (.bool o):=(hb1.cell (p:=⟨w.heap.size,7,none⟩) (by simp)).trans (by simp [go_sem])
 have x8:w1.cell? ⟨w.heap.size,8,none⟩=some (.slice ps ns cs):=(hb1.cell (p:=⟨w.heap.size,8,none⟩) (by simp)).trans (by simp [go_sem])
 have x9:w1.cell? ⟨w.heap.size,9,none⟩=some (.slice pr nr cr):=(hb1.cell (p:=⟨w.heap.size,9,none⟩) (by simp)).trans (by simp [go_sem])
 have hs1:w.heap.size<w1.heap.size:=by have:=hb1.size;simp at this;omega
 have hne1:w.heap.size≠w1.heap.size:=by omega
 obtain ⟨hB1, -⟩:=bgX (n:=w.heap.size) (W0:=w) (by go_grown) (by go_size) hb1
 clear hb1 cF
 go_wp2_with fail
 refine (c1.out _).mono ?_
 rintro r w2 ⟨rfl,hb2⟩
 have x0':w2.cell? ⟨w.heap.size,0,none⟩=some (.int .i64 k):=(hb2.cell (p:=⟨w.heap.size,0,none⟩) (by simp;omega)).trans (by simp (maxDischargeDepth:=6) [go_sem, *])
 have x1':w2.cell? ⟨w.heap.size,1,none⟩=some (.string nm):=(hb2.cell (p:=⟨w.heap.size,1,none⟩) (by simp;omega)).trans (by simp (maxDischargeDepth:=6) [go_sem, *])
 have x2':w2.cell? ⟨w.heap.size,2,none⟩=some (.int .i64 op):=(hb2.cell (p:=⟨w.heap.size,2,none⟩) (by simp;omega)).trans (by simp (maxDischargeDepth:=6) [go_sem, *])
 have x3':w2.cell? ⟨w.heap.size,3,none⟩=some (.slice pv nv cv):=(hb2.cell (p:=⟨w.heap.size,3,none⟩) (by simp;omega)).trans (by simp (maxDischargeDepth:=6) [go_sem, *])
 have x4':w2.cell? ⟨w.heap.size,4,none⟩=some (.slice pt nt ct):=(hb2.cell (p:=⟨w.heap.size,4,none⟩) (by simp;omega)).trans (by simp (maxDischargeDepth:=6) [go_sem, *])
 have x5':w2.cell? ⟨w.heap.size,5,none⟩=some (.int .i64 lo):=(hb2.cell (p:=⟨w.heap.size,5,none⟩) (by simp;omega)).trans (by simp (maxDischargeDepth:=6) [go_sem, *])
 have x6':w2.cell? ⟨w.heap.size,6,none⟩=some (.int .i64 hi):=(hb2.cell (p:=⟨w.heap.size,6,none⟩) (by simp;omega)).trans (by simp (maxDischargeDepth:=6) [go_sem, *])
 have x7':w2.cell? ⟨w.heap.size,7,none⟩=some (.bool o):=(hb2.cell (p:=⟨w.heap.size,7,none⟩) (by simp;omega)).trans (by simp (maxDischargeDepth:=6) [go_sem, *])
 have x8':w2.cell? ⟨w.heap.size,8,none⟩=some (.slice ps ns cs):=(hb2.cell (p:=⟨w.heap.size,8,none⟩) (by simp;omega)).trans (by simp (maxDischargeDepth:=6) [go_sem, *])
 have x9':w2.cell? ⟨w.heap.size,9,none⟩=some (.slice pr nr cr):=(hb2.cell (p:=⟨w.heap.size,9,none⟩) (by simp;omega)).trans (by simp (maxDischargeDepth:=6) [go_sem, *])
 have y0:w2.cell? ⟨w1.heap.size,0,none⟩=some (.bool mnm):=(hb2.cell (p:=⟨w1.heap.size,0,none⟩) (by simp)).trans (by simp [go_sem])
 have y1:w2.cell? ⟨w1.heap.size,1,none⟩=some (.bool mop):=(hb2.cell (p:=⟨w1.heap.size,1,none⟩) (by simp)).trans (by simp [go_sem])
 have y2:w2.cell? ⟨w1.heap.size,2,none⟩=some (.bool miv):=(hb2.cell (p:=⟨w1.heap.size,2,none⟩) (by simp)).trans (by simp [go_sem])
 have y3:w2.cell? ⟨w1.heap.size,3,none⟩=some (.int .i64 mvl):=(hb2.cell (p:=⟨w1.heap.size,3,none⟩) (by simp)).trans (by simp [go_sem])
 have y4:w2.cell? ⟨w1.heap.size,4,none⟩=some (.int .i64 mvm):=(hb2.cell (p:=⟨w1.heap.size,4,none⟩) (by simp)).trans (by simp [go_sem])
 have y5:w2.cell? ⟨w1.heap.size,5,none⟩=some (.int .i64 mtl):=(hb2.cell (p:=⟨w1.heap.size,5,none⟩) (by simp)).trans (by simp [go_sem])
 have y6:w2.cell? ⟨w1.heap.size,6,none⟩=some (.int .i64 mtm):=(hb2.cell (p:=⟨w1.heap.size,6,none⟩) (by simp)).trans (by simp [go_sem])
 have y7:w2.cell? ⟨w1.heap.size,7,none⟩=some (.int .i64 msl):=(hb2.cell (p:=⟨w1.heap.size,7,none⟩) (by simp)).trans (by simp [go_sem])
 have y8:w2.cell? ⟨w1.heap.size,8,none⟩=some (.int .i64 msm):=(hb2.cell (p:=⟨w1.heap.size,8,none⟩) (by simp)).trans (by simp [go_sem])
 have y9:w2.cell? ⟨w1.heap.size,9,none⟩=some (.int .i64 mrl):=(hb2.cell (p:=⟨w1.heap.size,9,none⟩) (by simp)).trans (by simp [go_sem])
 have y10:w2.cell? ⟨w1.heap.size,10,none⟩=some (.int .i64 mrm):=(hb2.cell (p:=⟨w1.heap.size,10,none⟩) (by simp)).trans (by simp [go_sem])
 have hs2:w1.heap.size<w2.heap.size:=by have:=hb2.size;simp at this;omega
 obtain ⟨hB2, -⟩:=bgX (n:=w1.heap.size) (W0:=w1) (by go_grown) (by go_size) hb2
 have K2:Below w.heap.size w w2:=hB1.trans (hB2.mono hB1.size)
 clear hb2 c1 hB2 x0 x1 x2 x3 x4 x5 x6 x7 x8 x9
 have FACT:Hid (∀ W:World,Below w2.heap.size w2 W→W.cell? ⟨w.heap.size,0,none⟩=some (.int .i64 k)∧W.cell? ⟨w.heap.size,1,none⟩=some (.string nm)∧W.cell? ⟨w.heap.size,2,none⟩=some (.int .i64 op)∧W.cell? ⟨w.heap.size,3,none⟩=some (.slice pv nv cv)∧W.cell? ⟨w.heap.size,4,none⟩=some (.slice pt nt ct)∧W.cell? ⟨w.heap.size,5,none⟩=some (.int .i64 lo)∧W.cell? ⟨w.heap.size,6,none⟩=some (.int .i64 hi)∧W.cell? ⟨w.heap.size,7,none⟩=some (.bool o)∧W.cell? ⟨w.heap.size,8,none⟩=some (.slice ps ns cs)∧W.cell? ⟨w.heap.size,9,none⟩=some (.slice pr nr cr)∧W.cell? ⟨w1.heap.size,0,none⟩=some (.bool mnm)∧W.cell? ⟨w1.heap.size,1,none⟩=some (.bool mop)∧W.cell? ⟨w1.heap.size,2,none⟩=some (.bool miv)∧W.cell? ⟨w1.heap.size,3,none⟩=some (.int .i64 mvl)∧W.cell? ⟨w1.heap.size,4,none⟩=some (.int .i64 mvm)∧W.cell? ⟨w1.heap.size,5,none⟩=some (.int .i64 mtl)∧W.cell? ⟨w1.heap.size,6,none⟩=some (.int .i64 mtm)∧W.cell? ⟨w1.heap.size,7,none⟩=some (.int .i64 msl)∧W.cell? ⟨w1.heap.size,8,none⟩=some (.int .i64 msm)∧W.cell? ⟨w1.heap.size,9,none⟩=some (.int .i64 mrl)∧W.cell? ⟨w1.heap.size,10,none⟩=some (.int .i64 mrm)∧Below w.heap.size w W):=fun W hW=>⟨(hW.cell (p:=⟨w.heap.size,0,none⟩) (by show w.heap.size<w2.heap.size;omega)).trans x0',(hW.cell (p:=⟨w.heap.size,1,none⟩) (by show w.heap.size<w2.heap.size;omega)).trans x1',(hW.cell (p:=⟨w.heap.size,2,none⟩) (by show w.heap.size<w2.heap.size;omega)).trans x2',(hW.cell (p:=⟨w.heap.size,3,none⟩) (by show w.heap.size<w2.heap.size;omega)).trans x3',(hW.cell (p:=⟨w.heap.size,4,none⟩) (by show w.heap.size<w2.heap.size;omega)).trans x4',(hW.cell (p:=⟨w.heap.size,5,none⟩) (by show w.heap.size<w2.heap.size;omega)).trans x5',(hW.cell (p:=⟨w.heap.size,6,none⟩) (by show w.heap.size<w2.heap.size;omega)).trans x6',(hW.cell (p:=⟨w.heap.size,7,none⟩) (by show w.heap.size<w2.heap.size;omega)).trans x7',(hW.cell (p:=⟨w.heap.size,8,none⟩) (by show w.heap.size<w2.heap.size;omega)).trans x8',(hW.cell (p:=⟨w.heap.size,9,none⟩) (by show w.heap.size<w2.heap.size;omega)).trans x9',(hW.cell (p:=⟨w1.heap.size,0,none⟩) hs2).trans y0,(hW.cell (p:=⟨w1.heap.size,1,none⟩) hs2).trans y1,(hW.cell (p:=⟨w1.heap.size,2,none⟩) hs2).trans y2,(hW.cell (p:=⟨w1.heap.size,3,none⟩) hs2).trans y3,(hW.cell (p:=⟨w1.heap.size,4,none⟩) hs2).trans y4,(hW.cell (p:=⟨w1.heap.size,5,none⟩) hs2).trans y5,(hW.cell (p:=⟨w1.heap.size,6,none⟩) hs2).trans y6,(hW.cell (p:=⟨w1.heap.size,7,none⟩) hs2).trans y7,(hW.cell (p:=⟨w1.heap.size,8,none⟩) hs2).trans y8,(hW.cell (p:=⟨w1.heap.size,9,none⟩) hs2).trans y9,(hW.cell (p:=⟨w1.heap.size,10,none⟩) hs2).trans y10,K2.trans (hW.mono K2.size)⟩
 clear x0' x1' x2' x3' x4' x5' x6' x7' x8' x9' y0 y1 y2 y3 y4 y5 y6 y7 y8 y9 y10 K2
 have Z0:Below w2.heap.size w2 w2:=Below.refl _ _
 cases b1 with
 | false=>
  have hR2:Hid (R=false):=by have h:=hR.out;unfold Hid;simpa using h
  obtain ⟨x0,x1,x2,x3,x4,x5,x6,x7,x8,x9,y0,y1,y2,y3,y4,y5,y6,y7,y8,y9,y10,kB⟩:=FACT.out w2 Z0
  go_wp2
  go_ret
  rw [hR2.out]
  exact ⟨rfl,kB⟩
 | true=>
 obtain ⟨x0,x1,x2,x3,x4,x5,x6,x7,x8,x9,y0,y1,y2,y3,y4,y5,y6,y7,y8,y9,y10,kB⟩:=FACT.out w2 Z0
 go_wp2_with fail
 refine (c2.out _).mono ?_
 rintro r v1 ⟨rfl,hv1⟩
 have Z1:Below w2.heap.size w2 v1:=Z0.trans (hv1.mono Z0.size)
 clear hv1 c2 x0 x1 x2 x3 x4 x5 x6 x7 x8 x9 y0 y1 y2 y3 y4 y5 y6 y7 y8 y9 y10 kB
 cases b2 with
 | false=>
  have hR2:Hid (R=false):=by have h:=hR.out;unfold Hid;simpa using h
  obtain ⟨x0,x1,x2,x3,x4,x5,x6,x7,x8,x9,y0,y1,y2,y3,y4,y5,y6,y7,y8,y9,y10,kB⟩:=FACT.out v1 Z1
  go_wp2
  go_ret
  rw [hR2.out]
  exact ⟨rfl,kB⟩
 | true=>
 obtain ⟨x0,x1,x2,x3,x4,x5,x6,x7,x8,x9,y0,y1,y2,y3,y4,y5,y6,y7,y8,y9,y10,kB⟩:=FACT.out v1 Z1
 go_wp2_with fail
 refine (c3.out _).mono ?_
 rintro r v2 ⟨rfl,hv2⟩
 have Z2:Below w2.heap.size w2 v2:=Z1.trans (hv2.mono Z1.size)
 clear hv2 c3 x0 x1 x2 x3 x4 x5 x6 x7 x8 x9 y0 y1 y2 y3 y4 y5 y6 y7 y8 y9 y10 kB
 cases b3 with
 | false=>
  have hR2:Hid (R=false):=by have h:=hR.out;unfold Hid;simpa using h
  obtain ⟨x0,x1,x2,x3,x4,x5,x6,x7,x8,x9,y0,y1,y2,y3,y4,y5,y6,y7,y8,y9,y10,kB⟩:=FACT.out v2 Z2
  go_wp2
  go_ret
  rw [hR2.out]
  exact ⟨rfl,kB⟩
 | true=>
 obtain ⟨x0,x1,x2,x3,x4,x5,x6,x7,x8,x9,y0,y1,y2,y3,y4,y5,y6,y7,y8,y9,y10,kB⟩:=FACT.out v2 Z2
 go_wp2_with fail
 refine (c4.out _).mono ?_
 rintro r v3 ⟨rfl,hv3⟩
 have Z3:Below w2.heap.size w2 v3:=Z2.trans (hv3.mono Z2.size)
 clear hv3 c4 x0 x1 x2 x3 x4 x5 x6 x7 x8 x9 y0 y1 y2 y3 y4 y5 y6 y7 y8 y9 y10 kB
 cases b4 with
 | false=>
  have hR2:Hid (R=false):=by have h:=hR.out;unfold Hid;simpa using h
  obtain ⟨x0,x1,x2,x3,x4,x5,x6,x7,x8,x9,y0,y1,y2,y3,y4,y5,y6,y7,y8,y9,y10,kB⟩:=FACT.out v3 Z3
  go_wp2
  go_ret
  rw [hR2.out]
  exact ⟨rfl,kB⟩
 | true=>
 obtain ⟨x0,x1,x2,x3,x4,x5,x6,x7,x8,x9,y0,y1,y2,y3,y4,y5,y6,y7,y8,y9,y10,kB⟩:=FACT.out v3 Z3
 go_wp2_with fail
 refine (cA.out _ kB).mono ?_
 rintro r v4 ⟨rfl,rfl⟩
 have Z4:Below w2.heap.size w2 v4:=Z3
 clear cA x0 x1 x2 x3 x4 x5 x6 x7 x8 x9 y0 y1 y2 y3 y4 y5 y6 y7 y8 y9 y10 kB
 cases b5 with
 | false=>
  have hR2:Hid (R=false):=by have h:=hR.out;unfold Hid;simpa using h
  obtain ⟨x0,x1,x2,x3,x4,x5,x6,x7,x8,x9,y0,y1,y2,y3,y4,y5,y6,y7,y8,y9,y10,kB⟩:=FACT.out v4 Z4
  go_wp2
  go_ret
  rw [hR2.out]
  exact ⟨rfl,kB⟩
 | true=>
 obtain ⟨x0,x1,x2,x3,x4,x5,x6,x7,x8,x9,y0,y1,y2,y3,y4,y5,y6,y7,y8,y9,y10,kB⟩:=FACT.out v4 Z4
 go_wp2_with fail
 refine (c6.out _).mono ?_
 rintro r v5 ⟨rfl,rfl⟩
 have Z5:Below w2.heap.size w2 v5:=Z4
 clear c6 x0 x1 x2 x3 x4 x5 x6 x7 x8 x9 y0 y1 y2 y3 y4 y5 y6 y7 y8 y9 y10 kB
 cases b6 with
 | false=>
  have hR2:Hid (R=false):=by have h:=hR.out;unfold Hid;simpa using h
  obtain ⟨x0,x1,x2,x3,x4,x5,x6,x7,x8,x9,y0,y1,y2,y3,y4,y5,y6,y7,y8,y9,y10,kB⟩:=FACT.out v5 Z5
  go_wp2
  go_ret
  rw [hR2.out]
  exact ⟨rfl,kB⟩
 | true=>
 obtain ⟨x0,x1,x2,x3,x4,x5,x6,x7,x8,x9,y0,y1,y2,y3,y4,y5,y6,y7,y8,y9,y10,kB⟩:=FACT.out v5 Z5
 go_wp2_with fail
 refine (c7.out _).mono ?_
 rintro r v6 ⟨rfl,rfl⟩
 have Z6:Below w2.heap.size w2 v6:=Z5
 clear c7 x0 x1 x2 x3 x4 x5 x6 x7 x8 x9 y0 y1 y2 y3 y4 y5 y6 y7 y8 y9 y10 kB
 cases b7 with
 | false=>
  have hR2:Hid (R=false):=by have h:=hR.out;unfold Hid;simpa using h
  obtain ⟨x0,x1,x2,x3,x4,x5,x6,x7,x8,x9,y0,y1,y2,y3,y4,y5,y6,y7,y8,y9,y10,kB⟩:=FACT.out v6 Z6
  go_wp2
  go_ret
  rw [hR2.out]
  exact ⟨rfl,kB⟩
 | true=>
 obtain ⟨x0,x1,x2,x3,x4,x5,x6,x7,x8,x9,y0,y1,y2,y3,y4,y5,y6,y7,y8,y9,y10,kB⟩:=FACT.out v6 Z6
 go_wp2_with fail
 refine (c8.out _).mono ?_
 rintro r v7 ⟨rfl,hv7⟩
 have Z7:Below w2.heap.size w2 v7:=Z6.trans (hv7.mono Z6.size)
 clear hv7 c8 x0 x1 x2 x3 x4 x5 x6 x7 x8 x9 y0 y1 y2 y3 y4 y5 y6 y7 y8 y9 y10 kB
 have hR2:Hid (R=b8):=by have h:=hR.out;unfold Hid;simpa using h
 obtain ⟨x0,x1,x2,x3,x4,x5,x6,x7,x8,x9,y0,y1,y2,y3,y4,y5,y6,y7,y8,y9,y10,kB⟩:=FACT.out v7 Z7
 go_wp2
 go_ret
 rw [hR2.out]
 exact ⟨rfl,kB⟩
theorem inStA:(Tryz.prog.info? 9).map (fun i=>(i.zero,i.size,i.bytes))=some (some (.string ByteArray.empty),1,16):=by kernel_rfl
def OwnN (B:Nat) (v:Value) (vs:List ByteArray) (w:World):Prop:=w.ownsRow B 9 1 v vs.length (vs.map Value.string)
theorem own_belA {w w':World} {B e size n:Nat} {v:Value} {xs:List Value} (h:w.ownsRow B e size v n xs) (hb:Below w.heap.size w w'):w'.ownsRow B e size v n xs:=
 World.ownsRow.kept h (row:=none) ⟨hb.os,hb.tape,hb.output,hb.size,fun k hk _=>hb.block k hk⟩ (by cases hv:v.ownBlock with | none=>exact Or.inl rfl | some k=>exact Or.inr (by intro h;cases h))
theorem OwnN.bel {B:Nat} {v:Value} {L:List ByteArray} {w w':World} (h:OwnN B v L w) (hb:Below w.heap.size w w'):OwnN B v L w':=own_belA h hb
theorem OwnN.nil (B:Nat) (w:World):OwnN B (.slice none 0 0) [] w:=⟨rfl,.inl ⟨rfl,rfl⟩⟩
theorem OwnN.cap {B:Nat} {v:Value} {L:List ByteArray} {w:World} (h:OwnN B v L w):∃ p c,v=.slice p L.length c∧L.length≤c∧(L=[]∨∃ g,p=some ⟨g,0,none⟩∧B≤g∧g<w.heap.size∧∀ i (hi:i<L.length),w.cell? ⟨g,i,none⟩=some (.string L[i])):=by
 have h':w.ownsRow B 9 1 v L.length (L.map Value.string):=h
 obtain ⟨hl,⟨e,hn⟩ | ⟨g,cap,cur,rfl,hg1,hg2,hg3,hg4,hg5,hg6⟩⟩:=h
 ·exact ⟨none,0,by rw [e,hn],by omega,Or.inl (List.length_eq_zero_iff.1 hn)⟩
 ·refine ⟨_,_,rfl,by omega,Or.inr ⟨g,rfl,hg1,(Array.getElem?_eq_some_iff.1 hg2).1,fun i hi=> ?_⟩⟩
  rw [h'.cellAt _ (by omega)]
  simp [hi]
theorem OwnN.nms {B:Nat} {v:Value} {L:List ByteArray} {w:World} (h:OwnN B v L w) (hl:L.length≤9223372036854775807):NmsAt w v L:=by
 obtain ⟨p,c,e,hc,h | ⟨g,h1,h2,h3,h4⟩⟩:=h.cap
 ·exact ⟨hl,p,c,e,hc,Or.inl h⟩
 ·exact ⟨hl,p,c,e,hc,Or.inr ⟨g,0,h1,h3,fun i hi=>by rw [Nat.zero_add];exact h4 i hi⟩⟩
theorem without_any (V O:Value) (vs us:List ByteArray) (w:World) (hV:NmsAt w V vs) (hO:NmsAt w O us) (lv:vs.length≤1000000000):
  Calls Tryz.prog 133 #[V,O] w fun e w'=>∃ v,e=.returned v∧OwnN w.heap.size v (vs.filter fun s=> !Lib.containsS us s) w'∧Below w.heap.size w w':=by
 obtain ⟨i0,hi,hz0,hz1,hz2⟩:=info_parts inStA
 obtain ⟨p,c,rfl,hl,hc,HX0⟩:=hV.form
 have HX:Hid (∀ i (hi:i<vs.length),∃ b off,p=some ⟨b,off,none⟩∧b<w.heap.size∧w.cell? ⟨b,off+i,none⟩=some (.string vs[i])):=HX0
 have cK:Hid (∀ (W:World) (X:ByteArray),Below w.heap.size w W→Calls Tryz.prog 79 #[O,.string X] W fun e w'=>e=.returned (.bool (Lib.containsS us X))∧w'=W):=fun W X hW=>acont_any O us X W (hO.below hW)
 obtain ⟨p',c',rfl, -, -⟩:=hO.form
 clear HX0 hV hO
 obtain ⟨n,en⟩:∃ n:Nat,Hid (vs.length=n):=⟨_,rfl⟩
 rw [en.out] at lv hl hc ⊢
 generalize us.length=nu at*
 go_enter Tryz.func133,Tryz.ntmps133
 go_wp2
 go_loopw [5,10] (fun v5 v wr=>∃ (k:Nat) (L:List ByteArray),k≤n∧v=.int .i64 k∧L.length≤k∧Hid (L=(vs.take k).filter fun s=> !Lib.containsS us s)∧Below w.heap.size w wr∧Hid (OwnN w.heap.size v5 L wr)) (fun _ v _=>n - (intOf v).toNat)
 case atStart=>exact ⟨0,[],Nat.zero_le _,rfl,Nat.le_refl _,(by show _=_;simp),Below.refl _ _,OwnN.nil _ _⟩
 case round=>
  obtain ⟨k,L,hk,rfl,hLk,hF,hB,hO⟩:=hrel
  have hsz:=hB.size
  have HK:Hid (∀ q,u5.ownBlock=some q→w.heap.size≤q):=fun q hq=>(World.ownsRow.lt hO.out q hq).1
  by_cases hlt:k<n
  case neg=>
   have c2:¬ (k:Int)<n:=by omega
   have hF2:Hid (vs.filter (fun s=> !Lib.containsS us s)=L):=by
    have h:=hF.out
    rw [List.take_of_length_le (by have:=en.out;omega)] at h
    exact h.symm
   go_wp2
   go_ret
   rw [hF2.out]
   exact ⟨_,rfl,hO.out,hB⟩
  have hlt':(k:Int)<n:=by omega
  have kx:k<vs.length:=by have:=en.out;omega
  obtain ⟨b,off,rfl,hb,a0⟩:=HX.out k kx
  have a1:=(hB.cell (p:=⟨b,off+k,none⟩) hb).trans a0
  have hF2:Hid ((vs.take (k+1)).filter (fun s=> !Lib.containsS us s)=if Lib.containsS us vs[k]=true then L else L++[vs[k]]):=by
   have h:=hF.out
   rw [List.take_succ_eq_append_getElem kx,List.filter_append,← h]
   unfold Hid
   rcases Bool.eq_false_or_eq_true (Lib.containsS us vs[k]) with h5 | h5<;>simp [h5]
  have cK1:Hid (Calls Tryz.prog 79 #[.slice p' nu c',.string vs[k]] wr fun e w'=>e=.returned (.bool (Lib.containsS us vs[k]))∧w'=wr):=cK.out wr _ hB
  clear hF a0
  generalize vs[k]=X at*
  generalize Lib.containsS us X=CB at*
  go_wp2_with fail
  refine cK1.out.mono ?_
  rintro r w1 ⟨rfl,rfl⟩
  clear cK1
  cases CB with
  | true=>
   have hF3:Hid (L=(vs.take (k+1)).filter fun s=> !Lib.containsS us s):=by have h:=hF2.out;rw [if_pos rfl] at h;exact h.symm
   go_wp2
   exact ⟨⟨k+1,L,by omega,by go_num,by omega,hF3,hB,hO⟩,by simp [intOf];omega⟩
  | false=>
   have hF3:Hid (L++[X]=(vs.take (k+1)).filter fun s=> !Lib.containsS us s):=by have h:=hF2.out;rw [if_neg (by decide)] at h;exact h.symm
   clear hF2
   go_wp2_with (at_builtin;refine wpList_append_own _ rfl _ _ 22 rfl w.heap.size 9 i0 (.string ByteArray.empty) 1 16 Tryz.underlying22 hi hz0 hz1 hz2 rfl (by decide) _ _ _ rfl (World.ownsRow.alloc hO.out _) ⟨w1.heap.size,0,none⟩ 1 1 [.string X] rfl rfl ?cc1 ?cc2 ?cc3 ?cc4 ?cc5 ?_)
   case cc1=>(intro j u hj;rw [Addr.add_lit];(rcases j with _ | j)<;>simp at hj<;>subst hj<;>simp (maxDischargeDepth:=12) [go_sem])
   case cc2=>(intro u hu;simp at hu;subst hu;rfl)
   case cc3=>unfold maxLen;omega
   case cc4=>omega
   case cc5=>first | omega | (simp;omega)
   intro v' w3 h2 h3 _
   have O3:Hid (OwnN w.heap.size v' (L++[X]) w3):=by
    show w3.ownsRow _ _ _ _ _ _
    rw [List.length_append,List.map_append]
    exact h2
   have B3:Below w.heap.size w w3:=Below.grown (hB.alloc hsz _) h3 (by simp;omega) HK.out
   clear h2 h3 HK hO
   go_wp2
   exact ⟨⟨k+1,L++[X],by omega,by go_num,by simp;omega,hF3,B3,O3⟩,by simp [intOf];omega⟩
theorem clone_any (s:ByteArray) (w:World) (hs:s.size≤281474976710656):Calls Tryz.prog 112 #[.string s] w fun e w'=>e=.returned (.string s)∧Below w.heap.size w w':=by
 go_enter Tryz.func112,Tryz.ntmps112
 go_wp2_with fail
 refine (Tryz.stringslite_Clone s _ hs).mono ?_
 rintro r w1 ⟨rfl,hb⟩
 go_wp2
 go_ret
 exact ⟨rfl,hb⟩
theorem copies_any (V:Value) (vs:List ByteArray) (w:World) (hV:NmsAt w V vs) (lv:vs.length*16≤140737488355328) (hs:∀ s∈vs,s.size≤281474976710656):
  Calls Tryz.prog 82 #[V] w fun e w'=>∃ v,e=.returned v∧OwnN w.heap.size v vs w'∧Below w.heap.size w w':=by
 obtain ⟨i0,hi,hz0,hz1,hz2⟩:=info_parts inStA
 obtain ⟨p,c,rfl,hl,hc,HX0⟩:=hV.form
 have HX:Hid (∀ i (hi:i<vs.length),∃ b off,p=some ⟨b,off,none⟩∧b<w.heap.size∧w.cell? ⟨b,off+i,none⟩=some (.string vs[i])):=HX0
 have HS:Hid (∀ s∈vs,s.size≤281474976710656):=hs
 clear HX0 hV hs
 obtain ⟨n,en⟩:∃ n:Nat,Hid (vs.length=n):=⟨_,rfl⟩
 rw [en.out] at lv hl hc ⊢
 go_enter Tryz.func82,Tryz.ntmps82
 go_wp2
 go_loopw [3,8] (fun v5 v wr=>∃ (k:Nat) (L:List ByteArray),k≤n∧v=.int .i64 k∧L.length≤k∧Hid (L=vs.take k)∧Below w.heap.size w wr∧Hid (OwnN w.heap.size v5 L wr)) (fun _ v _=>n - (intOf v).toNat)
 case atStart=>exact ⟨0,[],Nat.zero_le _,rfl,Nat.le_refl _,(by show _=_;simp),Below.refl _ _,OwnN.nil _ _⟩
 case round=>
  obtain ⟨k,L,hk,rfl,hLk,hF,hB,hO⟩:=hrel
  have hsz:=hB.size
  have HK:Hid (∀ q,u3.ownBlock=some q→w.heap.size≤q):=fun q hq=>(World.ownsRow.lt hO.out q hq).1
  by_cases hlt:k<n
  case neg=>
   have c2:¬ (k:Int)<n:=by omega
   have hF2:Hid (vs=L):=by
    have h:=hF.out
    rw [List.take_of_length_le (by have:=en.out;omega)] at h
    exact h.symm
   go_wp2
   go_ret
   rw [hF2.out]
   exact ⟨_,rfl,hO.out,hB⟩
  have hlt':(k:Int)<n:=by omega
  have kx:k<vs.length:=by have:=en.out;omega
  obtain ⟨b,off,rfl,hb,a0⟩:=HX.out k kx
  have a1:=(hB.cell (p:=⟨b,off+k,none⟩) hb).trans a0
  have hF3:Hid (L++[vs[k]]=vs.take (k+1)):=by
   have h:=hF.out
   unfold Hid
   rw [List.take_succ_eq_append_getElem kx,← h]
  have cK1:Hid (Calls Tryz.prog 112 #[.string vs[k]] wr fun e w'=>e=.returned (.string vs[k])∧Below wr.heap.size wr w'):=clone_any _ _ (HS.out _ (List.getElem_mem kx))
  clear hF a0
  generalize vs[k]=X at*
  go_wp2_with fail
  refine cK1.out.mono ?_
  rintro r w1 ⟨rfl,hb1⟩
  have hB1:Below w.heap.size w w1:=hB.trans (hb1.mono hsz)
  have hsz1:=hB1.size
  have hO1:Hid (OwnN w.heap.size u3 L w1):=hO.out.bel hb1
  clear cK1 hO
  go_wp2_with (at_builtin;refine wpList_append_own _ rfl _ _ 22 rfl w.heap.size 9 i0 (.string ByteArray.empty) 1 16 Tryz.underlying22 hi hz0 hz1 hz2 rfl (by decide) _ _ _ rfl (World.ownsRow.alloc hO1.out _) ⟨w1.heap.size,0,none⟩ 1 1 [.string X] rfl rfl ?cc1 ?cc2 ?cc3 ?cc4 ?cc5 ?_)
  case cc1=>(intro j u hj;rw [Addr.add_lit];(rcases j with _ | j)<;>simp at hj<;>subst hj<;>simp (maxDischargeDepth:=12) [go_sem])
  case cc2=>(intro u hu;simp at hu;subst hu;rfl)
  case cc3=>unfold maxLen;omega
  case cc4=>omega
  case cc5=>first | omega | (simp;omega)
  intro v' w3 h2 h3 _
  have O3:Hid (OwnN w.heap.size v' (L++[X]) w3):=by
   show w3.ownsRow _ _ _ _ _ _
   rw [List.length_append,List.map_append]
   exact h2
  have B3:Below w.heap.size w w3:=Below.grown (hB1.alloc hsz1 _) h3 (by simp;omega) HK.out
  clear h2 h3 HK hO1
  go_wp2
  exact ⟨⟨k+1,L++[X],by omega,by go_num,by simp;omega,hF3,B3,O3⟩,by simp [intOf];omega⟩
theorem run_append_noneA {P:Program} (w:World) (t ty e:TypeId) (i:TypeInfo) (ht:P.underlying t=some (.slice e)) (hi:P.info? e=some i) (base:Option Addr) (sLen sCap:Nat) (p:Option Addr) (c:Nat) (h:sLen≤sCap):
  (Builtin.append_ #[t,t] ty #[.slice base sLen sCap,.slice p 0 c]).run P w=.ok (.slice base sLen sCap) w:=by
 cases base<;>cases p<;>simp [Builtin.append_,run_underlying ht,sizeOf,typeInfo,hi,Builtin.lenOf,Builtin.firstCells,loadCells,loadCellsFrom,storeCells,h]
def SrcA (w:World) (size:Nat) (u:Value) (m:Nat) (news:List Value):Prop:=(∃ p c,u=.slice p 0 c∧m=0∧news=[])∨∃ ad c,u=.slice (some ad) m c∧news.length=m*size∧∀ j x,news[j]? =some x→w.cell? (ad.add j)=some x
theorem wpList_append_srcA {P:Program} {w:World} {ops:Array Oper} {rest:List Oper} {o:Oper} {a:Act} {Q:Exit→Act→World→Prop} (hgd:o.guard=none) (s x:Operand) (t:TypeId)
  (ho:o.op=.call {callee:=.builtin .append,args:=#[s,x],argTypes:=#[t,t]})
  (base:Nat) (e:TypeId) (i:TypeInfo) (z:Value) (size bytes:Nat) (ht:P.underlying t=some (.slice e)) (hi:P.info? e=some i) (hz:i.zero=some z)
  (hsize:i.size=size) (hby:i.bytes=bytes) (hzs:z.cells.size=size) (hsz:0<size)
  (v:Value) (n:Nat) (xs:List Value) (hs:a.eval s=v) (hown:w.ownsRow base e size v n xs)
  (u:Value) (m:Nat) (news:List Value) (hx:a.eval x=u) (hsrc:SrcA w size u m news) (h1:∀ u∈news,u.oneCell'=true)
  (h63:n+m≤maxLen) (hbytes:(n+m)*bytes≤140737488355328) (hbase:base≤w.heap.size)
  (h:∀ v' w',w'.ownsRow base e size v' (n+m) (xs++news)→w.grownBy w' v.ownBlock→(v'.ownBlock=v.ownBlock∨v'.ownBlock=some w.heap.size)→wpList P ops Q rest (a.put o.dst v') w'):
  wpList P ops Q (o::rest) a w:=by
 rcases hsrc with ⟨p,c,rfl,rfl,rfl⟩ | ⟨ad,c,rfl,hl,hnews⟩
 ·obtain ⟨b0,n0,c0,rfl,hle⟩:∃ b0 n0 c0,v=.slice b0 n0 c0∧n0≤c0:=by
   obtain ⟨-,⟨rfl, -⟩ | ⟨g,cap,cur,rfl, -, -,hn, -⟩⟩:=hown
   ·exact ⟨_,_,_,rfl,Nat.le_refl _⟩
   ·exact ⟨_,_,_,rfl,hn⟩
  exact Lib.wpList_append_run w hgd s x t t ho _ _ hs hx _ _ (run_append_noneA w t o.type e i ht hi b0 n0 c0 p c hle) (h _ _ (by simpa using hown) ⟨rfl,rfl,rfl,Nat.le_refl _,fun _ _ _=>rfl⟩ (Or.inl rfl))
 ·exact wpList_append_own_at w hgd s x t ho base e i z size bytes ht hi hz hsize hby hzs hsz v n xs hs hown ad m c news hx hl hnews h1 h63 hbytes hbase (fun v' w' a1 a2 _ a4=>h v' w' a1 a2 a4)
theorem srcA_nms {w:World} {u:Value} {xs:List ByteArray} (h:NmsAt w u xs):SrcA w 1 u xs.length (xs.map Value.string):=by
 obtain ⟨hl,p,c,rfl,hc,rfl | ⟨b,off,rfl,hb,hs⟩⟩:=h
 ·exact Or.inl ⟨p,c,rfl,rfl,rfl⟩
 ·refine Or.inr ⟨_,_,rfl,by simp,fun j x hj=> ?_⟩
  obtain ⟨h1,h2⟩:=List.getElem?_eq_some_iff.1 hj
  rw [List.length_map] at h1
  rw [List.getElem_map] at h2
  rw [← h2,Addr.add_lit]
  exact hs j h1
structure FQ where
 v:Value
 t:Value
 s:Value
 r:Value
def fcs (x:Fm×FQ):List Value:=[.int .i64 x.1.k,.string x.1.nm,.int .i64 x.1.op,x.2.v,x.2.t,.int .i64 x.1.lo,.int .i64 x.1.hi,.bool x.1.opn,x.2.s,x.2.r]
def flatF (ps:List (Fm×FQ)):List Value:=ps.flatMap fcs
theorem flatF_len (xs:List (Fm×FQ)):(flatF xs).length=xs.length*10:=by
 induction xs with
 | nil=>rfl
 | cons x xs ih=>simp only [flatF,List.flatMap_cons,List.length_append,List.length_cons] at ih ⊢;rw [ih];simp [fcs];omega
theorem flatF_append (xs ys:List (Fm×FQ)):flatF (xs++ys)=flatF xs++flatF ys:=by simp [flatF]
theorem flatF_get:∀ (xs:List (Fm×FQ)) (i j:Nat) (h:i<xs.length),j<10→(flatF xs)[i*10+j]? =(fcs xs[i])[j]?
 | x::xs,0,j,h,hj=>by
  simp only [flatF,List.flatMap_cons,Nat.zero_mul,Nat.zero_add,List.getElem_cons_zero]
  rw [List.getElem?_append_left (by simp [fcs];omega)]
 | x::xs,i+1,j,h,hj=>by
  have ih:=flatF_get xs i j (by simpa using h) hj
  simp only [flatF,List.flatMap_cons,List.getElem_cons_succ] at ih ⊢
  rw [List.getElem?_append_right (by simp [fcs];omega)]
  rw [← ih]
  congr 1
  simp [fcs]
  omega
def QAt (w:World) (x:Fm×FQ):Prop:=NmsAt w x.2.v x.1.vars∧TmsAt w x.2.t x.1.terms∧FmsAt w x.2.s x.1.subs∧RxsAt w x.2.r x.1.rgx
theorem QAt.below {w w':World} {x:Fm×FQ} (h:QAt w x) (hb:Below w.heap.size w w'):QAt w' x:=⟨h.1.below hb,h.2.1.bel hb,h.2.2.1.bel hb,h.2.2.2.bel hb⟩
theorem NmsAt.one {w:World} {u:Value} {xs:List ByteArray} (h:NmsAt w u xs):u.oneCell'=true:=by obtain ⟨-,p,c,rfl, -⟩:=h;rfl
theorem TmsAt.one {w:World} {u:Value} {xs:List Tm} (h:TmsAt w u xs):u.oneCell'=true:=by obtain ⟨p,c,rfl, -⟩:=h.form;rfl
theorem FmsAt.one {w:World} {u:Value} {xs:List Fm} (h:FmsAt w u xs):u.oneCell'=true:=by obtain ⟨p,c,rfl, -⟩:=h.form;rfl
theorem RxsAt.one {w:World} {u:Value} {xs:List Rx} (h:RxsAt w u xs):u.oneCell'=true:=by obtain ⟨p,c,rfl, -⟩:=h.form;rfl
theorem flatF_one {w:World} {ps:List (Fm×FQ)} (h:∀ x∈ps,QAt w x):∀ u∈flatF ps,u.oneCell'=true:=by
 intro u hu
 simp only [flatF,List.mem_flatMap] at hu
 obtain ⟨x,hx,hu⟩:=hu
 obtain ⟨h1,h2,h3,h4⟩:=h x hx
 simp only [fcs,List.mem_cons,List.not_mem_nil,or_false] at hu
 rcases hu with rfl | rfl | rfl | rfl | rfl | rfl | rfl | rfl | rfl | rfl
 ·rfl
 ·rfl
 ·rfl
 ·exact h1.one
 ·exact h2.one
 ·rfl
 ·rfl
 ·rfl
 ·exact h3.one
 ·exact h4.one
theorem srcF {w:World} {u:Value} {fs:List Fm} (h:FmsAt w u fs):∃ ps:List (Fm×FQ),ps.map Prod.fst=fs∧(∀ x∈ps,QAt w x)∧∀ W,Below w.heap.size w W→SrcA W 10 u fs.length (flatF ps):=by
 cases h with
 | nil=>exact ⟨[],rfl,fun x hx=>by simp at hx,fun W _=>Or.inl ⟨_,_,rfl,rfl,rfl⟩⟩
 | @row b off c fs uv ut us ur hl hc hB cells vars terms sub rgx=>
  refine ⟨List.ofFn fun i:Fin fs.length=>(fs[i.1],⟨uv i.1,ut i.1,us i.1,ur i.1⟩), ?_,fun x hx=> ?_,fun W hb=>Or.inr ⟨_,_,rfl,by rw [flatF_len,List.length_ofFn],fun j x hj=> ?_⟩⟩
  ·apply List.ext_getElem
   ·simp
   ·intro i h1 h2
    simp
  ·rw [List.mem_ofFn] at hx
   obtain ⟨i,rfl⟩:=hx
   exact ⟨vars i.1 i.2,terms i.1 i.2,sub i.1 i.2,rgx i.1 i.2⟩
  ·obtain ⟨hlt, -⟩:=List.getElem?_eq_some_iff.1 hj
   rw [flatF_len,List.length_ofFn] at hlt
   have hi:j / 10<fs.length:=by omega
   have g:=flatF_get (List.ofFn fun i:Fin fs.length=>(fs[i.1],(⟨uv i.1,ut i.1,us i.1,ur i.1⟩:FQ))) (j / 10) (j % 10) (by rw [List.length_ofFn];exact hi) (by omega)
   rw [show j / 10*10+j % 10=j by omega,hj,List.getElem_ofFn] at g
   obtain ⟨c0,c1,c2,c3,c4,c5,c6,c7,c8,c9⟩:=(cells (j / 10) hi).below hb hB
   have ej:off+j=off+j / 10*10+j % 10:=by omega
   rw [Addr.add_lit,ej]
   have hr:j % 10<10:=by omega
   generalize j % 10=r at g hr ⊢
   rcases r with _ | _ | _ | _ | _ | _ | _ | _ | _ | _ | r
   all_goals first | omega | (simp only [fcs,List.getElem?_cons_zero,List.getElem?_cons_succ,Option.some.injEq] at g;subst g;assumption)
theorem inFA:(Tryz.prog.info? 29).map (fun i=>(i.zero,i.size,i.bytes))=some (some (.agg #[.int .i64 0,.string ByteArray.empty,.int .i64 0,.slice none 0 0,.slice none 0 0,.int .i64 0,.int .i64 0,.bool false,.slice none 0 0,.slice none 0 0]),10,152):=by kernel_rfl
def OwnF (w0:World) (B:Nat) (v:Value) (fs:List Fm) (w:World):Prop:=∃ ps:List (Fm×FQ),ps.map Prod.fst=fs∧(∀ x∈ps,QAt w0 x)∧w.ownsRow B 29 10 v fs.length (flatF ps)
theorem OwnF.nil (w0:World) (B:Nat) (w:World):OwnF w0 B (.slice none 0 0) [] w:=⟨[],rfl,fun x hx=>by simp at hx,rfl,.inl ⟨rfl,rfl⟩⟩
theorem OwnF.bel {w0:World} {B:Nat} {v:Value} {L:List Fm} {w w':World} (h:OwnF w0 B v L w) (hb:Below w.heap.size w w'):OwnF w0 B v L w':=by
 obtain ⟨ps,h1,h2,h3⟩:=h
 exact ⟨ps,h1,h2,own_belA h3 hb⟩
theorem OwnF.src {w0:World} {B:Nat} {v:Value} {L:List Fm} {w:World} (h:OwnF w0 B v L w):∃ ps:List (Fm×FQ),ps.map Prod.fst=L∧(∀ x∈ps,QAt w0 x)∧SrcA w 10 v L.length (flatF ps):=by
 obtain ⟨ps,h1,h2,h3⟩:=h
 have h':=h3
 have hlen:ps.length=L.length:=by rw [← h1,List.length_map]
 refine ⟨ps,h1,h2, ?_⟩
 obtain ⟨hl2,⟨e,hn⟩ | ⟨g,cap,cur,rfl,hg1,hg2,hg3,hg4,hg5,hg6⟩⟩:=h3
 ·refine Or.inl ⟨none,0,e,hn, ?_⟩
  apply List.eq_nil_of_length_eq_zero
  rw [flatF_len]
  omega
 ·refine Or.inr ⟨_,_,rfl,by rw [flatF_len,hlen],fun j x hj=> ?_⟩
  obtain ⟨hlt, -⟩:=List.getElem?_eq_some_iff.1 hj
  rw [flatF_len] at hlt
  rw [Addr.add_lit,Nat.zero_add,h'.cellAt _ (by omega)]
  exact hj
theorem OwnF.app {w0:World} {B:Nat} {v:Value} {ps qs:List (Fm×FQ)} {L M:List Fm} {w:World} (h1:ps.map Prod.fst=L) (h2:∀ x∈ps,QAt w0 x) (g1:qs.map Prod.fst=M) (g2:∀ x∈qs,QAt w0 x) (h:w.ownsRow B 29 10 v (L.length+M.length) (flatF ps++flatF qs)):OwnF w0 B v (L++M) w:=by
 refine ⟨ps++qs,by rw [List.map_append,h1,g1],fun x hx=> ?_, ?_⟩
 ·rcases List.mem_append.1 hx with hx | hx
  ·exact h2 x hx
  ·exact g2 x hx
 ·rw [flatF_append,List.length_append]
  exact h
theorem OwnF.fms {w0:World} {B:Nat} {v:Value} {L:List Fm} {w:World} (h:OwnF w0 B v L w) (hb:Below w0.heap.size w0 w) (hl:L.length≤9223372036854775807):FmsAt w v L:=by
 obtain ⟨ps,h1,h2,h3⟩:=h
 have h':=h3
 have hlen:ps.length=L.length:=by rw [← h1,List.length_map]
 obtain ⟨hl2,⟨e,hn⟩ | ⟨g,cap,cur,rfl,hg1,hg2,hg3,hg4,hg5,hg6⟩⟩:=h3
 ·rw [e,List.length_eq_zero_iff.1 hn]
  exact .nil
 ·have hc:∀ i (hi:i<L.length) (j:Nat),j<10→w.cell? ⟨g,0+i*10+j,none⟩=(fcs (ps[i]'(by omega)))[j]?:=fun i hi j hj=>by
   rw [show 0+i*10+j=i*10+j by omega,h'.cellAt _ (by omega),flatF_get ps i j (by omega) hj]
  have he:∀ i (hi:i<L.length),(ps[i]'(by omega)).1=L[i]:=fun i hi=>by
   have h5:(ps.map Prod.fst)[i]? =L[i]?:=by rw [h1]
   rw [List.getElem?_map,List.getElem?_eq_getElem (show i<ps.length by omega),List.getElem?_eq_getElem hi] at h5
   simpa using h5
  have hq:∀ i (hi:i<L.length),QAt w (ps[i]'(by omega)):=fun i hi=>(h2 _ (List.getElem_mem _)).below hb
  refine .row (fun i=>if h:i<ps.length then ps[i].2.v else .slice none 0 0) (fun i=>if h:i<ps.length then ps[i].2.t else .slice none 0 0) (fun i=>if h:i<ps.length then ps[i].2.s else .slice none 0 0) (fun i=>if h:i<ps.length then ps[i].2.r else .slice none 0 0) hl hg3 (Array.getElem?_eq_some_iff.1 hg2).1 (fun i hi=> ?_) (fun i hi=> ?_) (fun i hi=> ?_) (fun i hi=> ?_) (fun i hi=> ?_)
  ·have hx:=hc i hi
   have e:=he i hi
   simp only [dif_pos (show i<ps.length by omega)]
   rw [← e]
   exact ⟨hx 0 (by omega),hx 1 (by omega),hx 2 (by omega),hx 3 (by omega),hx 4 (by omega),hx 5 (by omega),hx 6 (by omega),hx 7 (by omega),hx 8 (by omega),hx 9 (by omega)⟩
  ·simp only [dif_pos (show i<ps.length by omega)];rw [← he i hi];exact (hq i hi).1
  ·simp only [dif_pos (show i<ps.length by omega)];rw [← he i hi];exact (hq i hi).2.1
  ·simp only [dif_pos (show i<ps.length by omega)];rw [← he i hi];exact (hq i hi).2.2.1
  ·simp only [dif_pos (show i<ps.length by omega)];rw [← he i hi];exact (hq i hi).2.2.2
end Go.Proofs.YthodedagbbifbaaGreat
namespace Go.Proofs
open Go.Shelf
def Tryz.grS_ren:Go.Shelf.Ren:=⟨fun | 4=>135 | n=>n,fun | 22=>22 | 25=>9 | 3=>3 | 4=>4 | 9=>9 | 20=>20 | 0=>0 | n=>n,fun | n=>n⟩
theorem Tryz.grS:Go.Proofs.Lays8.n4 Tryz.prog Tryz.grS_ren:={
 mixed:=by kernel_rfl
 f4:=⟨Tryz.f135.name,by decide,Tryz.func135.trans (congrArg some (by kernel_rfl))⟩
 t0:=Tryz.underlying0
 a0:=Tryz.isAgg0
 z0:=Tryz.sizeOf0
 v0:=Tryz.zeroValue0
 t3:=Tryz.underlying3
 a3:=Tryz.isAgg3
 z3:=Tryz.sizeOf3
 v3:=Tryz.zeroValue3
 t4:=Tryz.underlying4
 a4:=Tryz.isAgg4
 z4:=Tryz.sizeOf4
 v4:=Tryz.zeroValue4
 t9:=Tryz.underlying9
 a9:=Tryz.isAgg9
 z9:=Tryz.sizeOf9
 v9:=Tryz.zeroValue9
 t20:=Tryz.underlying20
 a20:=Tryz.isAgg20
 z20:=Tryz.sizeOf20
 v20:=Tryz.zeroValue20
 t22:=Tryz.underlying22
 a22:=Tryz.isAgg22
 z22:=Tryz.sizeOf22
 v22:=Tryz.zeroValue22}
end Go.Proofs
namespace Go.Proofs.YthodedagbbifbaaGreat
open Go.RowKit LX Go.Shelf
set_option linter.unusedVariables false
def LstsAt (w:World) (A:Value) (us:List Value) (rs:List (List ByteArray)):Prop:=us.length=rs.length∧∃ p c,A=.slice p us.length c∧(∀ k (hk:k<us.length),∃ b off,p=some ⟨b,off,none⟩∧b<w.heap.size∧w.cell? ⟨b,off+k,none⟩=some us[k])∧∀ k (hk:k<us.length) (ky:k<rs.length),NmsAt w us[k] rs[k]
theorem heap_allocA (w:World) (o:Obj):(w.alloc o).heap[w.heap.size]? =some o:=by
 show (w.heap.push o)[w.heap.size]? =some o
 rw [Array.getElem?_push,if_pos rfl]
theorem growS_any (n:Nat) (w:World) (hn:n≤1000000000):Calls Tryz.prog 135 #[.slice none 0 0,.int .i64 n] w fun e w'=>∃ v,e=.returned v∧OwnN w.heap.size v [] w'∧Below w.heap.size w w':=by
 obtain ⟨i0,hi,hz0,hz1,hz2⟩:=info_parts inStA
 by_cases h0:n=0
 ·subst h0
  refine (Any8.slices_Grow_room Tryz.grS none 0 0 0 w (by omega) (by omega) (by omega) (by omega)).mono ?_
  rintro e w' ⟨rfl,rfl⟩
  exact ⟨_,rfl,World.ownsRow_nil _ _ _ _,Below.refl _ _⟩
 ·refine (Any8.slices_Grow_grow Tryz.grS i0 _ hi hz0 (by omega) none 0 0 n [] w (by omega) (by omega) (by rw [hz2];omega) (by omega) (by simp) (fun _=>rfl) (by intro a h;cases h)).mono ?_
  rintro e w' ⟨rfl,rfl⟩
  refine ⟨_,rfl,⟨rfl,Or.inr ⟨w.heap.size,_,_,rfl,Nat.le_refl _,heap_allocA _ _,Nat.zero_le _, ?_, ?_,by simp⟩⟩,((Below.refl _ _).drew).alloc (Nat.le_refl _) _⟩
  ·exact grownCap_le_maxLen w _ _ _ (by unfold maxLen;omega)
  ·have hG:=grownCap_ge w (0+n) 0 (Tryz.grS_ren.t 25)
   simp only [Nat.zero_add] at hG
   simp [Builtin.zeroCells,Value.cells]
   omega
theorem concatS_any (A:Value) (us:List Value) (rs:List (List ByteArray)) (w:World) (hA:LstsAt w A us rs) (lt:rs.flatten.length≤1000000000) (lu:us.length≤1000000000):
  Calls Tryz.prog 118 #[A] w fun e w'=>∃ v,e=.returned v∧OwnN w.heap.size v rs.flatten w'∧Below w.heap.size w w':=by
 obtain ⟨i0,hi,hz0,hz1,hz2⟩:=info_parts inStA
 obtain ⟨h1,p,c,rfl,HV0,hrs⟩:=hA
 have HV:Hid (∀ k (hk:k<us.length),∃ b off,p=some ⟨b,off,none⟩∧b<w.heap.size∧w.cell? ⟨b,off+k,none⟩=some us[k]):=HV0
 have HR:Hid (∀ k (hk:k<us.length) (ky:k<rs.length),NmsAt w us[k] rs[k]):=hrs
 have HT:Hid (rs.flatten.length≤1000000000):=lt
 have GR:Hid (∀ (n:Nat) (W:World),n≤1000000000→Calls Tryz.prog 135 #[.slice none 0 0,.int .i64 n] W fun e w'=>∃ v,e=.returned v∧OwnN W.heap.size v [] w'∧Below W.heap.size W w'):=growS_any
 obtain ⟨n,en⟩:∃ n:Nat,Hid (us.length=n):=⟨_,rfl⟩
 have er:Hid (rs.length=n):=h1.symm.trans en.out
 rw [en.out] at lu ⊢
 clear hrs HV0 lt
 go_enter Tryz.func118,Tryz.ntmps118
 go_wp2
 go_loopw [3,11] (fun s i wr=>∃ (k T:Nat),k≤n∧i=.int .i64 k∧s=.int .i64 T∧Hid (T=(rs.take k).flatten.length)∧T≤1000000000∧w=wr) (fun _ i _=>n - (intOf i).toNat)
 case atStart=>exact ⟨0,0,Nat.zero_le _,rfl,rfl,(show 0=((rs.take 0).flatten).length by simp),by omega,rfl⟩
 case round=>
  obtain ⟨k,T,hk,rfl,rfl,hT,lT,rfl⟩:=hrel
  by_cases hlt:k<n
  ·have kx:k<us.length:=by have:=en.out;omega
   have ky:k<rs.length:=by have:=er.out;omega
   obtain ⟨b,off,rfl,hb,q1⟩:=HV.out k kx
   have hx:=HR.out k kx ky
   have hT2:Hid (T+rs[k].length=(rs.take (k+1)).flatten.length):=by
    show _=_
    rw [List.take_succ_eq_append_getElem ky,List.flatten_append,List.length_append,← hT.out]
    simp
   have hT3:T+rs[k].length≤1000000000:=by
    have h:=HT.out
    have h2:(rs.take (k+1)).flatten.length≤rs.flatten.length:=by
     conv=>rhs;rw [← List.take_append_drop (k+1) rs]
     rw [List.flatten_append,List.length_append]
     omega
    have:=hT2.out
    omega
   generalize us[k]=u at q1 hx
   obtain ⟨pu,cu,rfl, -⟩:=hx.form
   generalize rs[k].length=nx at q1 hT2 hT3
   clear hx
   go_wp2
   exact ⟨⟨k+1,T+nx,by omega,by go_num,by go_num,hT2,hT3,by trivial⟩,by simp [intOf];omega⟩
  ·have c2:¬ (k:Int)<n:=by omega
   have hT2:Hid (T=rs.flatten.length):=by
    have h:=hT.out
    rwa [List.take_of_length_le (by have:=er.out;omega)] at h
   go_wp2_with fail
   refine (GR.out T _ lT).mono ?_
   rintro e w1 ⟨v,rfl,ho,hb1⟩
   have HO:Hid (OwnN w.heap.size v [] w1):=ho
   obtain ⟨pv,nv,cv,rfl⟩:∃ pv nv cv,v=.slice pv nv cv:=by
    obtain ⟨-,⟨e, -⟩ | ⟨g,cap,cur,e, -⟩⟩:=ho
    ·exact ⟨_,_,_,e⟩
    ·exact ⟨_,_,_,e⟩
   clear ho
   go_wp2
   go_loopw [6,27] (fun v i wr=>∃ (k:Nat),k≤n∧i=.int .i64 k∧Hid (OwnN w.heap.size v (rs.take k).flatten wr)∧Below w.heap.size w wr) (fun _ i _=>n - (intOf i).toNat)
   case atStart=>exact ⟨0,Nat.zero_le _,rfl,HO,hb1⟩
   case round=>
    obtain ⟨k2,hk2,rfl,HO2,hB2⟩:=hrel
    by_cases hlt2:k2<n
    ·have kx:k2<us.length:=by have:=en.out;omega
     have ky:k2<rs.length:=by have:=er.out;omega
     obtain ⟨b,off,rfl,hb,q1⟩:=HV.out k2 kx
     have q2:wr.cell? ⟨b,off+k2,none⟩=some us[k2]:=(hB2.cell (p:=⟨b,_,none⟩) hb).trans q1
     have hx:=(HR.out k2 kx ky).below hB2
     have hF:Hid ((rs.take (k2+1)).flatten=(rs.take k2).flatten++rs[k2]):=by
      show _=_
      rw [List.take_succ_eq_append_getElem ky,List.flatten_append]
      simp
     have hT3:((rs.take k2).flatten).length+rs[k2].length≤1000000000:=by
      have h:=HT.out
      have h2:(rs.take (k2+1)).flatten.length≤rs.flatten.length:=by
       conv=>rhs;rw [← List.take_append_drop (k2+1) rs]
       rw [List.flatten_append,List.length_append]
       omega
      rw [hF.out,List.length_append] at h2
      omega
     clear q1
     generalize us[k2]=u at q2 hx
     generalize rs[k2]=x at hx hF hT3
     obtain ⟨F,eF⟩:∃ F,Hid ((rs.take k2).flatten=F):=⟨_,rfl⟩
     rw [eF.out] at HO2 hF hT3
     have HX:Hid (SrcA wr 1 u x.length (x.map Value.string)):=srcA_nms hx
     obtain ⟨pu,cu,rfl, -⟩:=hx.form
     have hK:=hB2.size
     have HK:Hid (∀ q,u6.ownBlock=some q→w.heap.size≤q):=fun q hq=>(World.ownsRow.lt HO2.out q hq).1
     clear hx
     go_wp2_with (at_builtin;refine wpList_append_srcA rfl (.tmp 31) (.tmp 32) 22 rfl w.heap.size 9 i0 _ 1 16 Tryz.underlying22 hi hz0 hz1 hz2 rfl (by decide) _ _ _ rfl HO2.out _ x.length (x.map Value.string) rfl HX.out (by intro u hu;obtain ⟨y, -,rfl⟩:=List.mem_map.1 hu;rfl) (by unfold maxLen;omega) (by omega) hK ?grow)
     case grow=>
      intro v' w3 h2 h3 _
      have O3:Hid (OwnN w.heap.size v' (rs.take (k2+1)).flatten w3):=by
       show OwnN _ _ _ _
       rw [hF.out]
       unfold OwnN
       rw [List.length_append,List.map_append]
       exact h2
      have B3:Below w.heap.size w w3:=hB2.grown h3 hK HK.out
      clear h2 h3 HX HO2 HK
      go_wp2
      exact ⟨⟨k2+1,by omega,by go_num,O3,B3⟩,by simp [intOf];omega⟩
    ·have c3:¬ (k2:Int)<n:=by omega
     have O3:Hid (OwnN w.heap.size u6 rs.flatten wr):=by
      have h:=HO2.out
      rwa [List.take_of_length_le (by have:=er.out;omega)] at h
     go_wp2
     go_ret
     exact ⟨_,rfl,O3.out,hB2⟩
end Go.Proofs.YthodedagbbifbaaGreat
namespace Go.Proofs.YthodedagbbifbaaGreat
open Go.RowKit LX Go.Shelf Go.Sort
set_option linter.unusedVariables false
def bts (l:List ByteArray):List (List UInt8):=l.map (·.data.toList)
def unb (l:List (List UInt8)):List ByteArray:=l.map fun x=>⟨x.toArray⟩
theorem unb_str (l:List (List UInt8)):(unb l).map Value.string=l.map encStr:=by
 unfold unb
 rw [List.map_map]
 rfl
theorem bts_str (l:List ByteArray):(bts l).map encStr=l.map Value.string:=Lib.map_encStr l
theorem unb_bts (l:List ByteArray):unb (bts l)=l:=by
 unfold unb bts
 rw [List.map_map]
 conv=>rhs;rw [← List.map_id l]
 apply List.map_congr_left
 intro x _
 simp
def srtN (l:List ByteArray):List ByteArray:=unb ((bts l).mergeSort fun x y=>decide (x≤y))
def cmpN (l:List ByteArray):List ByteArray:=unb (Lib.compact (bts l))
theorem sortS_any (B:Nat) (v:Value) (L:List ByteArray) (w:World) (hB:B≤w.heap.size) (h:OwnN B v L w) (hl:L.length<4611686018427387904):
  Calls Tryz.prog 119 #[v] w fun e w'=>e=.returned (.tuple #[])∧OwnN B v (srtN L) w'∧Below B w w':=by
 by_cases hv:v=.slice none 0 0
 ·subst hv
  have hL:L=[]:=by
   obtain ⟨p,c,e, -⟩:=h.cap
   injection e with e1 e2 e3
   exact List.length_eq_zero_iff.1 e2.symm
  subst hL
  refine (Any.slices_Sort_string_none Tryz.lays190 none 0 w).mono ?_
  rintro e w' ⟨rfl,rfl⟩
  have e0:srtN []=[]:=by simp [srtN,bts,unb]
  rw [e0]
  exact ⟨rfl,h,Below.refl _ _⟩
 ·have h0:w.ownsRow B 9 1 v L.length ((bts L).map encStr):=by rw [bts_str];exact h
  obtain ⟨g,cap,rfl,hg,hlt,hn,hm,hz,hH⟩:=Lib.holds_of_ownsRow h0 hv
  have hc:=Any.slices_Sort_string Tryz.lays190 g 0 cap (bts L) w hH hlt (by omega)
  rw [hz] at hc
  refine hc.mono ?_
  rintro e w' ⟨rfl,n,os,rfl⟩
  have hk:=Lib.ownsRow_putRow (q:=n) (ys:=(bts L).mergeSort fun x y=>decide (x≤y)) (k:=L.length) h0 (by rw [List.length_mergeSort];exact hz) (Nat.le_refl _)
  rw [List.take_of_length_le (by rw [List.length_mergeSort];omega)] at hk
  have hl2:(srtN L).length=L.length:=by unfold srtN unb;rw [List.length_map,List.length_mergeSort];exact hz
  have hgb:∀ (W:World),W.grownBy (grow W os) none:=fun W=>⟨rfl,rfl,rfl,by simp,fun k hk _=>heap_grow_old W os hk⟩
  refine ⟨rfl, ?_, ?_⟩
  ·show World.ownsRow _ _ _ _ _ _ _
   rw [hl2]
   unfold srtN
   rw [unb_str]
   exact World.ownsRow.kept hk (hgb _) (Or.inr (by intro h;cases h))
  ·have hb1:Below B w (putRow encStr (Sort.ahead w n) g 0 ((bts L).mergeSort fun x y=>decide (x≤y)).toArray):=Lib.below_putRow (Below.refl _ _) hg
   exact hb1.grown (hgb _) (Nat.le_trans hB hb1.size) (fun k hk=>by cases hk)
theorem compactS_any (B:Nat) (v:Value) (L:List ByteArray) (w:World) (h:OwnN B v L w) (hl:L.length≤9223372036854775807):
  Calls Tryz.prog 120 #[v] w fun e w'=>∃ v',e=.returned v'∧OwnN B v' (cmpN L) w'∧Below B w w':=by
 by_cases hv:v=.slice none 0 0
 ·subst hv
  have hL:L=[]:=by
   obtain ⟨p,c,e, -⟩:=h.cap
   injection e with e1 e2 e3
   exact List.length_eq_zero_iff.1 e2.symm
  subst hL
  refine (Tryz.slices_Compact_string_empty none 0 w).mono ?_
  rintro e w' ⟨rfl,rfl⟩
  have e0:cmpN []=[]:=by rfl
  rw [e0]
  exact ⟨_,rfl,h,Below.refl _ _⟩
 ·have h0:w.ownsRow B 9 1 v L.length ((bts L).map encStr):=by rw [bts_str];exact h
  obtain ⟨g,cap,rfl,hg,hlt,hn,hm,hz,hH⟩:=Lib.holds_of_ownsRow h0 hv
  have hc:=Tryz.slices_Compact_string g 0 cap (bts L) w hH (by omega) (by omega)
  rw [hz] at hc
  refine hc.mono ?_
  rintro e w' ⟨rfl,q,rfl⟩
  have hle:=Lib.compact_length_le (bts L)
  have hk:=Lib.ownsRow_putRow (q:=q) (ys:=Lib.compact (bts L)++List.replicate (L.length - (Lib.compact (bts L)).length) []) (k:=(Lib.compact (bts L)).length) h0 (by rw [List.length_append,List.length_replicate];omega) (by omega)
  rw [List.take_left' rfl] at hk
  have hl2:(cmpN L).length=(Lib.compact (bts L)).length:=by unfold cmpN unb;rw [List.length_map]
  refine ⟨_,rfl, ?_,Lib.below_putRow (Below.refl _ _) hg⟩
  show World.ownsRow _ _ _ _ _ _ _
  rw [hl2]
  unfold cmpN
  rw [unb_str]
  exact hk
theorem srtN_len (L:List ByteArray):(srtN L).length=L.length:=by unfold srtN unb bts;rw [List.length_map,List.length_mergeSort,List.length_map]
def uniN (rs:List (List ByteArray)):List ByteArray:=cmpN (srtN rs.flatten)
theorem union_any (A:Value) (us:List Value) (rs:List (List ByteArray)) (w:World) (hA:LstsAt w A us rs) (lt:rs.flatten.length≤1000000000) (lu:us.length≤1000000000):
  Calls Tryz.prog 108 #[A] w fun e w'=>∃ v,e=.returned v∧OwnN w.heap.size v (uniN rs) w'∧Below w.heap.size w w':=by
 have cC:Hid (Calls Tryz.prog 118 #[A] w fun e w'=>∃ v,e=.returned v∧OwnN w.heap.size v rs.flatten w'∧Below w.heap.size w w'):=concatS_any A us rs w hA lt lu
 obtain ⟨-,p,c,rfl, -⟩:=hA
 generalize us.length=n at*
 obtain ⟨F,eF⟩:∃ F,Hid (rs.flatten=F):=⟨_,rfl⟩
 have eU:Hid (uniN rs=cmpN (srtN F)):=by unfold Hid uniN;rw [eF.out]
 rw [eU.out]
 rw [eF.out] at cC lt
 go_enter Tryz.func108,Tryz.ntmps108
 go_wp2_with fail
 refine cC.out.mono ?_
 rintro r w1 ⟨v,rfl,hO,hB⟩
 have HO:Hid (OwnN w.heap.size v F w1):=hO
 clear cC hO
 go_wp2_with fail
 refine (sortS_any w.heap.size v F w1 hB.size HO.out (by omega)).mono ?_
 rintro r w2 ⟨rfl,hO2,hb2⟩
 have HO2:Hid (OwnN w.heap.size v (srtN F) w2):=hO2
 have hB2:Below w.heap.size w w2:=hB.trans hb2
 clear HO hO2 hb2
 go_wp2_with fail
 refine (compactS_any w.heap.size v (srtN F) w2 HO2.out (by rw [srtN_len];omega)).mono ?_
 rintro r w3 ⟨v3,rfl,hO3,hb3⟩
 have hB3:Below w.heap.size w w3:=hB2.trans hb3
 have HO3:Hid (OwnN w.heap.size v3 (cmpN (srtN F)) w3):=hO3
 clear hO3 hb3 HO2
 go_wp2
 go_ret
 exact ⟨_,rfl,HO3.out,hB3⟩
end Go.Proofs.YthodedagbbifbaaGreat
namespace Go.Proofs.YthodedagbbifbaaGreat
open Go.RowKit LX Go.Shelf
set_option linter.unusedVariables false
section
mutual
def tvs:Tm→List ByteArray
 | .mk k nm v subs=>(if k=1 then [nm] else [])++tvss subs
def tvss:List Tm→List ByteArray
 | []=>[]
 | t::l=>tvs t++tvss l
end
end
theorem tvs_eq (t:Tm):tvs t=(if t.k=1 then [t.nm] else [])++tvss t.subs:=by
 cases t
 rw [tvs]
 rfl
theorem tvss_nil:tvss []=[]:=by rw [tvss]
theorem tvss_cons (t:Tm) (l:List Tm):tvss (t::l)=tvs t++tvss l:=by rw [tvss]
theorem gathered_any (w0:World) (B:Nat) (hB0:w0.heap.size≤B):∀ (m:Nat) (ts:List Tm) (V U:Value) (L:List ByteArray) (w:World),SizeOf.sizeOf ts≤m→TmsAt w0 V ts→Below w0.heap.size w0 w→B≤w.heap.size→OwnN B U L w→(L++tvss ts).length≤1000000000→
  Calls Tryz.prog 109 #[U,V] w fun e w'=>∃ v,e=.returned v∧OwnN B v (L++tvss ts) w'∧Below B w w':=by
 obtain ⟨i0,hi,hz0,hz1,hz2⟩:=info_parts inStA
 intro m
 induction m with
 | zero=>intro ts V U L w hm;cases ts<;>simp at hm
 | succ m ih=>
  intro ts V U L w hm hV hw hBw hU hlen
  obtain ⟨p,c,rfl,hl,hc,HX0⟩:=hV.form
  have HX:Hid (∀ i (hi:i<ts.length),∃ b off u,p=some ⟨b,off,none⟩∧b<w0.heap.size∧TmC w0 b (off+i*7) ts[i] u∧TmsAt w0 u ts[i].subs∧ts[i].v.Fits):=HX0
  have IH:Hid (∀ (ts:List Tm) (V U:Value) (L:List ByteArray) (w:World),SizeOf.sizeOf ts≤m→TmsAt w0 V ts→Below w0.heap.size w0 w→B≤w.heap.size→OwnN B U L w→(L++tvss ts).length≤1000000000→
   Calls Tryz.prog 109 #[U,V] w fun e w'=>∃ v,e=.returned v∧OwnN B v (L++tvss ts) w'∧Below B w w'):=ih
  have HU:Hid (OwnN B U L w):=hU
  have HM:Hid (SizeOf.sizeOf ts≤m+1):=hm
  obtain ⟨R,eR⟩:∃ R:List ByteArray,Hid (L++tvss ts=R):=⟨_,rfl⟩
  rw [eR.out] at hlen ⊢
  clear hV HX0 ih hU hm
  obtain ⟨n,en⟩:∃ n:Nat,Hid (ts.length=n):=⟨_,rfl⟩
  rw [en.out] at hl hc ⊢
  go_enter Tryz.func109,Tryz.ntmps109
  go_wp2
  go_loopw [0,9] (fun v0 v wr=>∃ (k:Nat) (M:List ByteArray),k≤n∧v=.int .i64 k∧Hid (R=M++tvss (ts.drop k))∧Below B w wr∧Hid (OwnN B v0 M wr)) (fun _ v _=>n - (intOf v).toNat)
  case atStart=>exact ⟨0,L,Nat.zero_le _,rfl,by rw [List.drop_zero];exact eR.out.symm,Below.refl _ _,HU⟩
  case round=>
   obtain ⟨k,M,hk,rfl,hr,hB,hO⟩:=hrel
   have hsz:=hB.size
   have HK:Hid (∀ q,u0.ownBlock=some q→B≤q∧q<wr.heap.size):=fun q hq=>World.ownsRow.lt hO.out q hq
   by_cases hlt:k<n
   case neg=>
    have c2:¬ (k:Int)<n:=by omega
    have hr2:Hid (R=M):=by
     have h:=hr.out
     rw [List.drop_eq_nil_of_le (by have:=en.out;omega),tvss_nil,List.append_nil] at h
     exact h
    go_wp2
    go_ret
    rw [hr2.out]
    exact ⟨_,rfl,hO.out,hB⟩
   have hlt':(k:Int)<n:=by omega
   have kx:k<ts.length:=by have:=en.out;omega
   obtain ⟨b,off,u,rfl,hb,TC,TS,TF⟩:=HX.out k kx
   have hBr:Below w0.heap.size w0 wr:=hw.trans (hB.mono hB0)
   obtain ⟨a0,a1,a2,a3,a4,a5,a6⟩:=TC.below hBr hb
   have hr2:Hid (R=M++((if ts[k].k=1 then [ts[k].nm] else [])++tvss ts[k].subs)++tvss (ts.drop (k+1))):=by
    have h:=hr.out
    rw [List.drop_eq_getElem_cons kx,tvss_cons,tvs_eq] at h
    exact h.trans (List.append_assoc _ _ _).symm
   have hsz2:SizeOf.sizeOf ts[k].subs≤m:=by
    have h1:=mem_lt k kx
    have h2:=ts[k].subs_lt
    have h3:=HM.out
    omega
   clear TC hr TF
   generalize ts[k]=t at*
   obtain ⟨pu,cu,rfl, -⟩:=TS.form
   obtain ⟨SV,hSV⟩:∃ SV:List ByteArray,Hid (tvss t.subs=SV):=⟨_,rfl⟩
   have cR:Hid (∀ (W:World) (U:Value) (M:List ByteArray),Below w0.heap.size w0 W→B≤W.heap.size→OwnN B U M W→(M++SV).length≤1000000000→Calls Tryz.prog 109 #[U,.slice pu t.subs.length cu] W fun e w'=>∃ v,e=.returned v∧OwnN B v (M++SV) w'∧Below B W w'):=fun W U M h1 h2 h3 h4=>by
    have h:=IH.out t.subs _ U M W hsz2 TS h1 h2 h3 (by rw [hSV.out];exact h4)
    rw [hSV.out] at h
    exact h
   rw [hSV.out] at hr2
   clear TS hsz2 hSV
   generalize t.subs.length=nu at*
   generalize t.v.k=vk at*
   generalize t.v.n=vn at*
   generalize t.v.d=vd at*
   generalize t.v.s=vs at*
   generalize t.k=tk at*
   generalize t.nm=nm at*
   have hBB:B≤wr.heap.size:=by omega
   by_cases h1:tk=1
   ·subst h1
    have hr3:Hid (R=(M++[nm])++SV++tvss (ts.drop (k+1))):=by
     have h:=hr2.out
     rw [if_pos rfl,← List.append_assoc] at h
     exact h
    have hlM:M.length+1≤1000000000:=by
     have h:=congrArg List.length hr3.out
     simp at h
     omega
    have hlS:(M++[nm]++SV).length≤1000000000:=by
     have h:=congrArg List.length hr3.out
     rw [List.length_append] at h
     omega
    clear hr2
    go_wp2_with (at_builtin;refine wpList_append_own _ rfl _ _ 22 rfl B 9 i0 (.string ByteArray.empty) 1 16 Tryz.underlying22 hi hz0 hz1 hz2 rfl (by decide) _ _ _ rfl (World.ownsRow.alloc (World.ownsRow.alloc hO.out _) _) ⟨wr.heap.size+1,0,none⟩ 1 1 [.string nm] rfl rfl ?cc1 ?cc2 ?cc3 ?cc4 ?cc5 ?_)
    case cc1=>(intro j u hj;rw [Addr.add_lit];(rcases j with _ | j)<;>simp at hj<;>subst hj<;>simp (maxDischargeDepth:=12) [go_sem])
    case cc2=>(intro u hu;simp at hu;subst hu;rfl)
    case cc3=>unfold maxLen;omega
    case cc4=>omega
    case cc5=>first | omega | (simp;omega)
    intro v' w3 h2 h3 _
    have O3:Hid (OwnN B v' (M++[nm]) w3):=by
     show w3.ownsRow _ _ _ _ _ _
     rw [List.length_append,List.map_append]
     exact h2
    have B3:Below B w w3:=Below.grown ((hB.alloc hBB _).alloc (by simp;omega) _) h3 (by simp;omega) (fun q hq=>(HK.out q hq).1)
    have e6:w3.cell? ⟨wr.heap.size,6,none⟩=some (.slice pu nu cu):=by
     refine (World.cell?_of_block (h3.block wr.heap.size (by simp;omega) (fun e=> ?_))).trans (by simp [go_sem])
     have:=(HK.out _ e.symm).2
     omega
    clear h2 h3 HK hO
    have hw3:Below w0.heap.size w0 w3:=hw.trans (B3.mono hB0)
    go_wp2_with fail
    refine (cR.out _ _ _ hw3 (by have:=B3.size;omega) O3.out hlS).mono ?_
    rintro r w4 ⟨v4,rfl,h4,hb4⟩
    have O4:Hid (OwnN B v4 (M++[nm]++SV) w4):=h4
    have B4:Below B w w4:=B3.trans hb4
    clear h4 hb4 e6 O3 B3
    go_wp2
    exact ⟨⟨k+1,_,by omega,by go_num,hr3,B4,O4⟩,by simp [intOf];omega⟩
   ·have hr3:Hid (R=M++SV++tvss (ts.drop (k+1))):=by
     have h:=hr2.out
     rw [if_neg h1,List.nil_append] at h
     exact h
    have hlS:(M++SV).length≤1000000000:=by
     have h:=congrArg List.length hr3.out
     rw [List.length_append] at h
     omega
    clear hr2
    have O3:∀ o,OwnN B u0 M (wr.alloc o):=fun o=>World.ownsRow.alloc hO.out o
    go_wp2_with fail
    refine (cR.out _ _ _ (hBr.trans ((Below.refl _ _).alloc hBr.size _)) (by simp;omega) (O3 _) hlS).mono ?_
    rintro r w4 ⟨v4,rfl,h4,hb4⟩
    have O4:Hid (OwnN B v4 (M++SV) w4):=h4
    have B4:Below B w w4:=(hB.alloc hBB _).trans hb4
    clear h4 hb4 O3
    go_wp2
    exact ⟨⟨k+1,_,by omega,by go_num,hr3,B4,O4⟩,by simp [intOf];omega⟩
theorem uniN_len (rs:List (List ByteArray)):(uniN rs).length≤rs.flatten.length:=by
 unfold uniN cmpN
 unfold unb
 rw [List.length_map]
 refine Nat.le_trans (Lib.compact_length_le _) ?_
 unfold bts
 rw [List.length_map,srtN_len]
 exact Nat.le_refl _
theorem tms_one {W:World} {b:Nat} {t:Tm} {u:Value} (hb:b<W.heap.size) (hf:t.v.Fits) (hs:TmsAt W u t.subs) (hc:TmC W b 0 t u):TmsAt W (.slice (some ⟨b,0,none⟩) 1 1) [t]:=by
 refine TmsAt.row (ts:=[t]) (fun _=>u) (by simp) (fun i h=> ?_) (by simp) hb (fun i h=> ?_) (fun i h=> ?_)
 ·have:i=0:=by simp at h;omega
  subst this;exact hf
 ·have:i=0:=by simp at h;omega
  subst this;exact hc
 ·have:i=0:=by simp at h;omega
  subst this;exact hs
theorem tvars_any (t:Tm) (u:Value) (w:World) (hu:TmsAt w u t.subs) (hf:t.v.Fits) (hl:(tvs t).length≤1000000000) (hs:∀ s∈uniN [tvs t],s.size≤281474976710656):
  Calls Tryz.prog 80 #[.agg #[.int .i64 t.k,.string t.nm,.int .i64 t.v.k,.int .i64 t.v.n,.int .i64 t.v.d,.string t.v.s,u]] w fun e w'=>∃ v,e=.returned v∧OwnN w.heap.size v (uniN [tvs t]) w'∧Below w.heap.size w w':=by
 have e1:tvss [t]=tvs t:=by rw [tvss_cons,tvss_nil,List.append_nil]
 have HG:Hid (∀ (W:World) (b:Nat),Below w.heap.size w W→b<W.heap.size→TmC W b 0 t u→Calls Tryz.prog 109 #[.slice none 0 0,.slice (some ⟨b,0,none⟩) 1 1] W fun e w'=>∃ v,e=.returned v∧OwnN W.heap.size v (tvs t) w'∧Below W.heap.size W w'):=fun W b h1 h2 h3=>by
  have h:=gathered_any W W.heap.size (Nat.le_refl _) _ [t] _ (.slice none 0 0) [] W (Nat.le_refl _) (tms_one h2 hf (hu.bel h1) h3) (Below.refl _ _) (Nat.le_refl _) (OwnN.nil _ _) (by rw [List.nil_append,e1];exact hl)
  rw [List.nil_append,e1] at h
  exact h
 obtain ⟨pu,cu,rfl, -⟩:=hu.form
 obtain ⟨N,eN⟩:∃ N:List ByteArray,Hid (tvs t=N):=⟨_,rfl⟩
 rw [eN.out] at HG hl hs ⊢
 have HS:Hid (∀ s∈uniN [N],s.size≤281474976710656):=hs
 have hln:(uniN [N]).length≤1000000000:=by have:=uniN_len [N];simp at this;omega
 clear hs hu
 have HC:Hid (∀ (W:World) (b:Nat),W.cell? ⟨b,0,none⟩=some (.int .i64 t.k)→W.cell? ⟨b,1,none⟩=some (.string t.nm)→W.cell? ⟨b,2,none⟩=some (.int .i64 t.v.k)→W.cell? ⟨b,3,none⟩=some (.int .i64 t.v.n)→W.cell? ⟨b,4,none⟩=some (.int .i64 t.v.d)→W.cell? ⟨b,5,none⟩=some (.string t.v.s)→W.cell? ⟨b,6,none⟩=some (.slice pu t.subs.length cu)→TmC W b 0 t (.slice pu t.subs.length cu)):=fun W b h0 h1 h2 h3 h4 h5 h6=>⟨h0,h1,h2,h3,h4,h5,h6⟩
 go_enter Tryz.func80,Tryz.ntmps80
 go_wp2_with fail
 refine (HG.out _ (w.heap.size+1) (((Below.refl _ _).alloc (Nat.le_refl _) _).alloc (by simp) _) (by simp) (HC.out _ _ (by simp [go_sem]) (by simp [go_sem]) (by simp [go_sem]) (by simp [go_sem]) (by simp [go_sem]) (by simp [go_sem]) (by simp [go_sem]))).mono ?_
 rintro r w1 ⟨v1,rfl,hO1,hb1⟩
 have hB1:Below w.heap.size w w1:=(((Below.refl _ _).alloc (Nat.le_refl _) _).alloc (by simp) _).trans (hb1.mono (by simp;omega))
 have HN1:Hid (NmsAt w1 v1 N):=hO1.nms (by omega)
 have hz1:=hB1.size
 clear hO1 hb1 HG HC
 obtain ⟨p1,c1,rfl, -⟩:=HN1.out.form
 have HU:Hid (∀ (W:World) (b:Nat),Below w1.heap.size w1 W→b<W.heap.size→W.cell? ⟨b,0,none⟩=some (.slice p1 N.length c1)→Calls Tryz.prog 108 #[.slice (some ⟨b,0,none⟩) 1 1] W fun e w'=>∃ v,e=.returned v∧OwnN W.heap.size v (uniN [N]) w'∧Below W.heap.size W w'):=fun W b h1 h2 h3=>by
  refine union_any _ [.slice p1 N.length c1] [N] W ⟨rfl,_,_,rfl,fun k hk=> ?_,fun k hk ky=> ?_⟩ (by simp;omega) (by simp)
  ·have:k=0:=by simp at hk;omega
   subst this;exact ⟨b,0,rfl,h2,h3⟩
  ·have:k=0:=by simp at hk;omega
   subst this;exact HN1.out.below h1
 go_wp2_with fail
 refine (HU.out _ w1.heap.size ((Below.refl _ _).alloc (Nat.le_refl _) _) (by simp) (by simp [go_sem])).mono ?_
 rintro r w2 ⟨v2,rfl,hO2,hb2⟩
 have hB2:Below w.heap.size w w2:=(hB1.alloc hz1 _).trans (hb2.mono (by simp;omega))
 have HN2:Hid (NmsAt w2 v2 (uniN [N])):=hO2.nms (by omega)
 have hz2:=hB2.size
 clear hO2 hb2 HU
 have CC:Hid (Calls Tryz.prog 82 #[v2] w2 fun e w'=>∃ v,e=.returned v∧OwnN w2.heap.size v (uniN [N]) w'∧Below w2.heap.size w2 w'):=copies_any v2 _ w2 HN2.out (by omega) HS.out
 go_wp2_with fail
 refine CC.out.mono ?_
 rintro r w3 ⟨v3,rfl,hO3,hb3⟩
 have hB3:Below w.heap.size w w3:=hB2.trans (hb3.mono hz2)
 have HO3:Hid (OwnN w.heap.size v3 (uniN [N]) w3):=by
  obtain ⟨h1,h | ⟨g,cap,cur,a,b,c⟩⟩:=hO3
  ·exact ⟨h1,Or.inl h⟩
  ·exact ⟨h1,Or.inr ⟨g,cap,cur,a,Nat.le_trans hz2 b,c⟩⟩
 clear hO3 hb3 CC
 go_wp2
 go_ret
 exact ⟨_,rfl,HO3.out,hB3⟩
section
mutual
def rts:Rx→List Fm
 | .mk k test subs=>test++rtss subs
def rtss:List Rx→List Fm
 | []=>[]
 | r::l=>rts r++rtss l
end
end
theorem rts_eq (r:Rx):rts r=r.test++rtss r.subs:=by
 cases r
 rw [rts]
 rfl
theorem rtss_nil:rtss []=[]:=by rw [rtss]
theorem rtss_cons (r:Rx) (l:List Rx):rtss (r::l)=rts r++rtss l:=by rw [rtss]
theorem tests_any (w0:World):∀ (m:Nat) (rs:List Rx) (V:Value) (w:World),SizeOf.sizeOf rs≤m→RxsAt w0 V rs→Below w0.heap.size w0 w→(rtss rs).length≤1000000000→
  Calls Tryz.prog 132 #[V] w fun e w'=>∃ v,e=.returned v∧OwnF w0 w.heap.size v (rtss rs) w'∧Below w.heap.size w w':=by
 obtain ⟨i0,hi,hz0,hz1,hz2⟩:=info_parts inFA
 intro m
 induction m with
 | zero=>intro rs V w hm;cases rs<;>simp at hm
 | succ m ih=>
  intro rs V w hm hV hw hlen
  obtain ⟨p,c,rfl,hl,hc,HX0⟩:=hV.form
  have HX:Hid (∀ i (hi:i<rs.length),∃ b off ut us,p=some ⟨b,off,none⟩∧b<w0.heap.size∧RxC w0 b (off+i*3) rs[i] ut us∧FmsAt w0 ut rs[i].test∧RxsAt w0 us rs[i].subs):=HX0
  have IH:Hid (∀ (rs:List Rx) (V:Value) (w:World),SizeOf.sizeOf rs≤m→RxsAt w0 V rs→Below w0.heap.size w0 w→(rtss rs).length≤1000000000→Calls Tryz.prog 132 #[V] w fun e w'=>∃ v,e=.returned v∧OwnF w0 w.heap.size v (rtss rs) w'∧Below w.heap.size w w'):=ih
  have HM:Hid (SizeOf.sizeOf rs≤m+1):=hm
  have hw0:=hw.size
  obtain ⟨R,eR⟩:∃ R:List Fm,Hid (rtss rs=R):=⟨_,rfl⟩
  rw [eR.out] at hlen ⊢
  clear hV HX0 ih hm
  obtain ⟨n,en⟩:∃ n:Nat,Hid (rs.length=n):=⟨_,rfl⟩
  rw [en.out] at hl hc ⊢
  go_enter Tryz.func132,Tryz.ntmps132
  go_wp2
  go_loopw [3,8] (fun v0 v wr=>∃ (k:Nat) (M:List Fm),k≤n∧v=.int .i64 k∧Hid (R=M++rtss (rs.drop k))∧Below w.heap.size w wr∧Hid (OwnF w0 w.heap.size v0 M wr)) (fun _ v _=>n - (intOf v).toNat)
  case atStart=>exact ⟨0,[],Nat.zero_le _,rfl,by rw [List.drop_zero];exact eR.out.symm,Below.refl _ _,OwnF.nil _ _ _⟩
  case round=>
   obtain ⟨k,M,hk,rfl,hr,hB,hO⟩:=hrel
   have hsz:=hB.size
   by_cases hlt:k<n
   case neg=>
    have c2:¬ (k:Int)<n:=by omega
    have hr2:Hid (R=M):=by
     have h:=hr.out
     rw [List.drop_eq_nil_of_le (by have:=en.out;omega),rtss_nil,List.append_nil] at h
     exact h
    go_wp2
    go_ret
    rw [hr2.out]
    exact ⟨_,rfl,hO.out,hB⟩
   have hlt':(k:Int)<n:=by omega
   have kx:k<rs.length:=by have:=en.out;omega
   obtain ⟨b,off,ut,us,rfl,hb,TC,NT,NS⟩:=HX.out k kx
   have hBr:Below w0.heap.size w0 wr:=hw.trans (hB.mono hw0)
   obtain ⟨a0,a1,a2⟩:=TC.below hBr hb
   have hr2:Hid (R=(M++rs[k].test)++rtss rs[k].subs++rtss (rs.drop (k+1))):=by
    have h:=hr.out
    rw [List.drop_eq_getElem_cons kx,rtss_cons,rts_eq] at h
    unfold Hid
    rw [h]
    simp [List.append_assoc]
   have hsz2:SizeOf.sizeOf rs[k].subs≤m:=by
    have h1:=mem_lt k kx
    have h2:=rs[k].subs_lt
    have h3:=HM.out
    omega
   clear TC hr
   generalize rs[k]=r at*
   obtain ⟨qs,q1,q2,q3⟩:=srcF NT
   have HQ:Hid (∀ W,Below w0.heap.size w0 W→SrcA W 10 ut r.test.length (flatF qs)):=q3
   have HQ2:Hid (∀ x∈qs,QAt w0 x):=q2
   have HQ1:Hid (qs.map Prod.fst=r.test):=q1
   obtain ⟨pt,ct,rfl, -⟩:=NT.form
   obtain ⟨pu,cu,rfl, -⟩:=NS.form
   obtain ⟨SV,hSV⟩:∃ SV:List Fm,Hid (rtss r.subs=SV):=⟨_,rfl⟩
   rw [hSV.out] at hr2
   have hlA:((M++r.test)++SV).length≤1000000000:=by
    have h:=congrArg List.length hr2.out
    rw [List.length_append] at h
    omega
   have hlS:SV.length≤1000000000:=by rw [List.length_append] at hlA;omega
   have hlM:M.length+r.test.length≤1000000000:=by rw [List.length_append,List.length_append] at hlA;omega
   have hlT:(M++r.test).length+SV.length≤1000000000:=by rw [List.length_append] at hlA;omega
   have cR:Hid (∀ W:World,Below w0.heap.size w0 W→Calls Tryz.prog 132 #[.slice pu r.subs.length cu] W fun e w'=>∃ v,e=.returned v∧OwnF w0 W.heap.size v SV w'∧Below W.heap.size W w'):=fun W h1=>by
    have h:=IH.out r.subs _ W hsz2 NS h1 (by rw [hSV.out];exact hlS)
    rw [hSV.out] at h
    exact h
   clear NT NS hsz2 hSV q1 q2 q3 hlA hlS
   obtain ⟨ps,p1,p2,p3⟩:=hO.out
   have HK:Hid (∀ q,u3.ownBlock=some q→w.heap.size≤q∧q<wr.heap.size):=fun q hq=>World.ownsRow.lt p3 q hq
   have HP3:Hid (wr.ownsRow w.heap.size 29 10 u3 M.length (flatF ps)):=p3
   have HP2:Hid (∀ x∈ps,QAt w0 x):=p2
   have HP1:Hid (ps.map Prod.fst=M):=p1
   clear p1 p2 p3 hO
   generalize eT:r.test=TL at*
   generalize r.subs.length=nu at*
   generalize r.k=rk at*
   have hBB:w0.heap.size≤wr.heap.size:=hBr.size
   go_wp2_with (at_builtin;refine wpList_append_srcA rfl _ _ 26 rfl w.heap.size 29 i0 (.agg #[.int .i64 0,.string ByteArray.empty,.int .i64 0,.slice none 0 0,.slice none 0 0,.int .i64 0,.int .i64 0,.bool false,.slice none 0 0,.slice none 0 0]) 10 152 Tryz.underlying26 hi hz0 hz1 hz2 rfl (by decide) _ _ _ rfl (World.ownsRow.alloc HP3.out _) _ TL.length (flatF qs) rfl (HQ.out _ (hBr.alloc hBB _)) (flatF_one HQ2.out) ?cc3 ?cc4 ?cc5 ?_)
   case cc3=>unfold maxLen;omega
   case cc4=>omega
   case cc5=>first | omega | (simp;omega)
   intro v' w3 h2 h3 _
   have O3:Hid (OwnF w0 w.heap.size v' (M++TL) w3):=OwnF.app HP1.out HP2.out HQ1.out HQ2.out h2
   have B3:Below w.heap.size w w3:=Below.grown (hB.alloc hsz _) h3 (by simp;omega) (fun q hq=>(HK.out q hq).1)
   have e2:w3.cell? ⟨wr.heap.size,2,none⟩=some (.slice pu nu cu):=by
    refine (World.cell?_of_block (h3.block wr.heap.size (by simp) (fun e=> ?_))).trans (by simp [go_sem])
    have:=(HK.out _ e.symm).2
    omega
   clear h2 h3 HK HP1 HP2 HP3 HQ HQ1 HQ2 a0 a1 a2 eT
   have hw3:Below w0.heap.size w0 w3:=hw.trans (B3.mono hw0)
   have hz3:=B3.size
   go_wp2_with fail
   refine (cR.out _ hw3).mono ?_
   rintro r w4 ⟨v4,rfl,h4,hb4⟩
   have B4:Below w.heap.size w w4:=B3.trans (hb4.mono hz3)
   have hz4:=B4.size
   obtain ⟨ps,p1,p2,p3⟩:=O3.out.bel hb4
   obtain ⟨qs,q1,q2,q3⟩:=h4.src
   have HK:Hid (∀ q,v'.ownBlock=some q→w.heap.size≤q∧q<w4.heap.size):=fun q hq=>World.ownsRow.lt p3 q hq
   have HP3:Hid (w4.ownsRow w.heap.size 29 10 v' (M++TL).length (flatF ps)):=p3
   have HP2:Hid (∀ x∈ps,QAt w0 x):=p2
   have HP1:Hid (ps.map Prod.fst=M++TL):=p1
   have HQ:Hid (SrcA w4 10 v4 SV.length (flatF qs)):=q3
   have HQ2:Hid (∀ x∈qs,QAt w0 x):=q2
   have HQ1:Hid (qs.map Prod.fst=SV):=q1
   clear p1 p2 p3 q1 q2 q3 O3 B3 hb4 h4 e2 cR
   generalize M++TL=MT at*
   go_wp2_with (at_builtin;refine wpList_append_srcA rfl _ _ 26 rfl w.heap.size 29 i0 (.agg #[.int .i64 0,.string ByteArray.empty,.int .i64 0,.slice none 0 0,.slice none 0 0,.int .i64 0,.int .i64 0,.bool false,.slice none 0 0,.slice none 0 0]) 10 152 Tryz.underlying26 hi hz0 hz1 hz2 rfl (by decide) _ _ _ rfl HP3.out _ SV.length (flatF qs) rfl HQ.out (flatF_one HQ2.out) ?cc3 ?cc4 ?cc5 ?_)
   case cc3=>unfold maxLen;omega
   case cc4=>omega
   case cc5=>first | omega | (simp;omega)
   intro v5 w5 h2 h3 _
   have O5:Hid (OwnF w0 w.heap.size v5 (MT++SV) w5):=OwnF.app HP1.out HP2.out HQ1.out HQ2.out h2
   have B5:Below w.heap.size w w5:=Below.grown B4 h3 (by omega) (fun q hq=>(HK.out q hq).1)
   clear h2 h3 HK HP1 HP2 HP3 HQ HQ1 HQ2
   go_wp2
   exact ⟨⟨k+1,_,by omega,by go_num,hr2,B5,O5⟩,by simp [intOf];omega⟩
def ptsF (f:Fm):List Fm:=if f.rgx=[] then f.subs else rtss f.rgx
theorem parts_any (w0:World) (f:Fm) (q:FQ) (hq:QAt w0 (f,q)) (w:World) (hw:Below w0.heap.size w0 w) (hl:(rtss f.rgx).length≤1000000000):
  Calls Tryz.prog 105 #[.agg #[.int .i64 f.k,.string f.nm,.int .i64 f.op,q.v,q.t,.int .i64 f.lo,.int .i64 f.hi,.bool f.opn,q.s,q.r]] w fun e w'=>∃ v,e=.returned v∧FmsAt w' v (ptsF f)∧Below w.heap.size w w':=by
 obtain ⟨uv,ut,us,ur⟩:=q
 obtain ⟨h1,h2,h3,h4⟩:=hq
 dsimp only at h1 h2 h3 h4 ⊢
 have HS:Hid (FmsAt w us f.subs):=h3.bel hw
 have cT:Hid (∀ W:World,Below w0.heap.size w0 W→Calls Tryz.prog 132 #[ur] W fun e w'=>∃ v,e=.returned v∧OwnF w0 W.heap.size v (rtss f.rgx) w'∧Below W.heap.size W w'):=fun W hW=>tests_any w0 _ f.rgx ur W (Nat.le_refl _) h4 hW hl
 obtain ⟨-,pv,cv,rfl, -, -⟩:=h1
 obtain ⟨pt,ct,rfl, -⟩:=h2.form
 obtain ⟨ps,cs,rfl, -⟩:=h3.form
 obtain ⟨pr,cr,rfl,lr, -⟩:=h4.form
 clear h2 h3 h4
 have hw0:=hw.size
 by_cases he:f.rgx=[]
 ·have e1:Hid (ptsF f=f.subs):=if_pos he
  have e2:f.rgx.length=0:=by rw [he];rfl
  rw [e1.out,e2]
  clear cT
  go_enter Tryz.func105,Tryz.ntmps105
  go_wp2
  go_ret
  exact ⟨_,rfl,HS.out.bel ((Below.refl _ _).alloc (Nat.le_refl _) _),(Below.refl _ _).alloc (Nat.le_refl _) _⟩
 ·have e1:Hid (ptsF f=rtss f.rgx):=if_neg he
  have e2:0<f.rgx.length:=List.length_pos_iff.2 he
  rw [e1.out]
  obtain ⟨n,en⟩:∃ n:Nat,f.rgx.length=n:=⟨_,rfl⟩
  rw [en] at e2 cT lr ⊢
  have e3:(0:Int)<n:=by omega
  go_enter Tryz.func105,Tryz.ntmps105
  go_wp2_with fail
  refine (cT.out _ (hw.trans ((Below.refl _ _).alloc hw0 _))).mono ?_
  rintro r w2 ⟨v,rfl,hO,hb⟩
  have hB:Below w.heap.size w w2:=((Below.refl _ _).alloc (Nat.le_refl _) _).trans (hb.mono (by simp))
  have hF:Hid (FmsAt w2 v (rtss f.rgx)):=hO.fms (hw.trans (hB.mono hw0)) (by omega)
  clear hO hb cT
  go_wp2
  go_ret
  exact ⟨_,rfl,hF.out,hB⟩
end Go.Proofs.YthodedagbbifbaaGreat
