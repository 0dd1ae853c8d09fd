/- What the claims of this seat share: base. -/
import Derived.Test.YticnfeolbfmgfaaGreatDoorZ02
import Derived.RangeFuncNested
import Derived.RangeFuncBound
import Derived.RangeFuncCalls
import Derived.RangeFuncLeaves
import Derived.Shelf.Abstract
import Derived.Shelf.RegionOpen
import Derived.WalkKit
import Derived.OwnWalk
import Derived.OwnWalkIn
import Derived.TacticsInMore
import Derived.LoopNIn
import Derived.LoopIn
import Derived.Laws.OwnMore
import Derived.Lib.Builder
import Derived.Maps.AppendAt
import Derived.Handy
import Derived.IntWalk
import Derived.Deep.Cut
import Derived.BigQuiet
import Derived.Deep.QuietTactic
import Derived.WalkLawsBesides
import Derived.WalkMore
import Derived.WalkSpells
import Derived.Deep.RegionHeld3
import Derived.Deep.RegionLaw
import Derived.Test.YticnfeolbfmgfaaGreatDoorRows
import Derived.RegionCalls
import Derived.Laws.IdiomCopy
import Derived.Lib.AppendZeros
set_option maxRecDepth 100000
set_option maxHeartbeats 8000000
namespace Go.Proofs.YticnfeolbfmgfaaGreatDoor
open Go.RowKit Go.Shelf
set_option linter.unusedVariables false
theorem num_no1 (s S:ByteArray) (k n d E:Int) (w:World) (h1: -9223372036854775808≤n) (h2:n≤9223372036854775807)
  (PA:Hid (∀ W:World,Pow W→Errs W→6≤W.heap.size→Calls Tryz.prog 117 #[.string s] W fun e w'=>e=.returned (.tuple #[.agg #[.int .i64 k,.int .i64 n,.int .i64 d,.string S],.int .i64 E])∧Below W.heap.size W w'))
  (ht:Pow w) (he:Errs w) (h8:6≤w.heap.size) (hE:¬ E=0):
  Calls Tryz.prog 118 #[.string s] w fun e w'=>e=.returned (.tuple #[.agg #[.int .i64 0,.int .i64 0,.int .i64 0,.string ⟨#[]⟩],.bool false])∧Below w.heap.size w w':=by
 have HE:Hid (Errs w):=he
 have HP:Hid (Pow w):=ht
 clear he ht
 go_enter Tryz.func118,Tryz.ntmps118
 go_wp2_with fail
 refine (PA.out _ (HP.out.below ((Below.refl _ w).alloc (Nat.le_refl _) _)) (HE.out.alloc h8 _) (by simp;omega)).mono ?_
 rintro e w1 ⟨rfl,hb1⟩
 have R1:Hid (BlkV w1 w.heap.size 0 0 0 ⟨#[]⟩):=BlkV.below (by constructor<;>simp (maxDischargeDepth:=12) [go_sem]) hb1 (by simp)
 have B1:Below w.heap.size w w1:=((Below.refl _ w).alloc (Nat.le_refl _) _).trans (hb1.mono (by simp))
 have z1:w.heap.size<w1.heap.size:=by have:=hb1.size;simp at this;omega
 clear hb1
 go_upto_region 2 with fail
 refine wp_world ?_
 intro W2 hW2
 have R2:Hid (BlkV W2 w.heap.size 0 0 0 ⟨#[]⟩):=by rw [hW2];exact R1.out.below ((Below.refl w1.heap.size w1).alloc (Nat.le_refl _) _) z1
 have V2:Hid (BlkV W2 w1.heap.size k n d S):=by rw [hW2];constructor<;>simp (maxDischargeDepth:=12) [go_sem]
 have B2:Below w.heap.size w W2:=by rw [hW2];exact B1.alloc B1.size _
 clear hW2 R1 B1 z1
 obtain ⟨r0,r1,r2,r3,r4,r5,r6,r7⟩:=R2.out
 obtain ⟨v0,v1,v2,v3, -, -, -, -⟩:=V2.out
 go_wp2
 generalize hW9:World.setCell _ _ _=W9
 have b9:BlkV W9 w.heap.size 0 0 0 ⟨#[]⟩:=by rw [← hW9];exact R2.out.four
 have hB9:Below w.heap.size w W9:=by rw [← hW9];exact (((B2.setCell (by simp) _).setCell (by simp) _).setCell (by simp) _).setCell (by simp) _
 clear hW9
 obtain ⟨x0,x1,x2,x3, -, -, -, -⟩:=b9
 refine bodyPost_ret (by simp [results,Tryz.results118,go_sem,x0,x1,x2,x3];try rfl) rfl ?_
 exact ⟨rfl,hB9⟩
theorem num_no2 (s S:ByteArray) (k n d E:Int) (w:World) (h1: -9223372036854775808≤n) (h2:n≤9223372036854775807)
  (PA:Hid (∀ W:World,Pow W→Errs W→6≤W.heap.size→Calls Tryz.prog 117 #[.string s] W fun e w'=>e=.returned (.tuple #[.agg #[.int .i64 k,.int .i64 n,.int .i64 d,.string S],.int .i64 E])∧Below W.heap.size W w'))
  (ht:Pow w) (he:Errs w) (h8:6≤w.heap.size) (hE:E=0) (hk:¬ k=1):
  Calls Tryz.prog 118 #[.string s] w fun e w'=>e=.returned (.tuple #[.agg #[.int .i64 0,.int .i64 0,.int .i64 0,.string ⟨#[]⟩],.bool false])∧Below w.heap.size w w':=by
 subst hE
 have HE:Hid (Errs w):=he
 have HP:Hid (Pow w):=ht
 clear he ht
 go_enter Tryz.func118,Tryz.ntmps118
 go_wp2_with fail
 refine (PA.out _ (HP.out.below ((Below.refl _ w).alloc (Nat.le_refl _) _)) (HE.out.alloc h8 _) (by simp;omega)).mono ?_
 rintro e w1 ⟨rfl,hb1⟩
 have R1:Hid (BlkV w1 w.heap.size 0 0 0 ⟨#[]⟩):=BlkV.below (by constructor<;>simp (maxDischargeDepth:=12) [go_sem]) hb1 (by simp)
 have B1:Below w.heap.size w w1:=((Below.refl _ w).alloc (Nat.le_refl _) _).trans (hb1.mono (by simp))
 have z1:w.heap.size<w1.heap.size:=by have:=hb1.size;simp at this;omega
 clear hb1
 go_upto_region 2 with fail
 refine wp_world ?_
 intro W2 hW2
 have R2:Hid (BlkV W2 w.heap.size 0 0 0 ⟨#[]⟩):=by rw [hW2];exact R1.out.below ((Below.refl w1.heap.size w1).alloc (Nat.le_refl _) _) z1
 have V2:Hid (BlkV W2 w1.heap.size k n d S):=by rw [hW2];constructor<;>simp (maxDischargeDepth:=12) [go_sem]
 have B2:Below w.heap.size w W2:=by rw [hW2];exact B1.alloc B1.size _
 clear hW2 R1 B1 z1
 obtain ⟨r0,r1,r2,r3,r4,r5,r6,r7⟩:=R2.out
 obtain ⟨v0,v1,v2,v3, -, -, -, -⟩:=V2.out
 go_wp2
 generalize hW9:World.setCell _ _ _=W9
 have b9:BlkV W9 w.heap.size 0 0 0 ⟨#[]⟩:=by rw [← hW9];exact R2.out.four
 have hB9:Below w.heap.size w W9:=by rw [← hW9];exact (((B2.setCell (by simp) _).setCell (by simp) _).setCell (by simp) _).setCell (by simp) _
 clear hW9
 obtain ⟨x0,x1,x2,x3, -, -, -, -⟩:=b9
 refine bodyPost_ret (by simp [results,Tryz.results118,go_sem,x0,x1,x2,x3];try rfl) rfl ?_
 exact ⟨rfl,hB9⟩
theorem num_no3 (s S:ByteArray) (k n d E:Int) (w:World) (h1: -9223372036854775808≤n) (h2:n≤9223372036854775807)
  (PA:Hid (∀ W:World,Pow W→Errs W→6≤W.heap.size→Calls Tryz.prog 117 #[.string s] W fun e w'=>e=.returned (.tuple #[.agg #[.int .i64 k,.int .i64 n,.int .i64 d,.string S],.int .i64 E])∧Below W.heap.size W w'))
  (ht:Pow w) (he:Errs w) (h8:6≤w.heap.size) (hE:E=0) (hk:k=1) (hn:n<0):
  Calls Tryz.prog 118 #[.string s] w fun e w'=>e=.returned (.tuple #[.agg #[.int .i64 0,.int .i64 0,.int .i64 0,.string ⟨#[]⟩],.bool false])∧Below w.heap.size w w':=by
 subst hE
 subst hk
 have HE:Hid (Errs w):=he
 have HP:Hid (Pow w):=ht
 clear he ht
 go_enter Tryz.func118,Tryz.ntmps118
 go_wp2_with fail
 refine (PA.out _ (HP.out.below ((Below.refl _ w).alloc (Nat.le_refl _) _)) (HE.out.alloc h8 _) (by simp;omega)).mono ?_
 rintro e w1 ⟨rfl,hb1⟩
 have R1:Hid (BlkV w1 w.heap.size 0 0 0 ⟨#[]⟩):=BlkV.below (by constructor<;>simp (maxDischargeDepth:=12) [go_sem]) hb1 (by simp)
 have B1:Below w.heap.size w w1:=((Below.refl _ w).alloc (Nat.le_refl _) _).trans (hb1.mono (by simp))
 have z1:w.heap.size<w1.heap.size:=by have:=hb1.size;simp at this;omega
 clear hb1
 go_upto_region 2 with fail
 refine wp_world ?_
 intro W2 hW2
 have R2:Hid (BlkV W2 w.heap.size 0 0 0 ⟨#[]⟩):=by rw [hW2];exact R1.out.below ((Below.refl w1.heap.size w1).alloc (Nat.le_refl _) _) z1
 have V2:Hid (BlkV W2 w1.heap.size 1 n d S):=by rw [hW2];constructor<;>simp (maxDischargeDepth:=12) [go_sem]
 have B2:Below w.heap.size w W2:=by rw [hW2];exact B1.alloc B1.size _
 clear hW2 R1 B1 z1
 obtain ⟨r0,r1,r2,r3,r4,r5,r6,r7⟩:=R2.out
 obtain ⟨v0,v1,v2,v3, -, -, -, -⟩:=V2.out
 go_wp2
 generalize hW9:World.setCell _ _ _=W9
 have b9:BlkV W9 w.heap.size 0 0 0 ⟨#[]⟩:=by rw [← hW9];exact R2.out.four
 have hB9:Below w.heap.size w W9:=by rw [← hW9];exact (((B2.setCell (by simp) _).setCell (by simp) _).setCell (by simp) _).setCell (by simp) _
 clear hW9
 obtain ⟨x0,x1,x2,x3, -, -, -, -⟩:=b9
 refine bodyPost_ret (by simp [results,Tryz.results118,go_sem,x0,x1,x2,x3];try rfl) rfl ?_
 exact ⟨rfl,hB9⟩
theorem num_no4 (s S:ByteArray) (k n d E:Int) (w:World) (h1: -9223372036854775808≤n) (h2:n≤9223372036854775807)
  (PA:Hid (∀ W:World,Pow W→Errs W→6≤W.heap.size→Calls Tryz.prog 117 #[.string s] W fun e w'=>e=.returned (.tuple #[.agg #[.int .i64 k,.int .i64 n,.int .i64 d,.string S],.int .i64 E])∧Below W.heap.size W w'))
  (ht:Pow w) (he:Errs w) (h8:6≤w.heap.size) (hE:E=0) (hk:k=1) (hn:0≤n) (hm:1099511627776<n):
  Calls Tryz.prog 118 #[.string s] w fun e w'=>e=.returned (.tuple #[.agg #[.int .i64 0,.int .i64 0,.int .i64 0,.string ⟨#[]⟩],.bool false])∧Below w.heap.size w w':=by
 subst hE
 subst hk
 have HE:Hid (Errs w):=he
 have HP:Hid (Pow w):=ht
 clear he ht
 go_enter Tryz.func118,Tryz.ntmps118
 go_wp2_with fail
 refine (PA.out _ (HP.out.below ((Below.refl _ w).alloc (Nat.le_refl _) _)) (HE.out.alloc h8 _) (by simp;omega)).mono ?_
 rintro e w1 ⟨rfl,hb1⟩
 have R1:Hid (BlkV w1 w.heap.size 0 0 0 ⟨#[]⟩):=BlkV.below (by constructor<;>simp (maxDischargeDepth:=12) [go_sem]) hb1 (by simp)
 have B1:Below w.heap.size w w1:=((Below.refl _ w).alloc (Nat.le_refl _) _).trans (hb1.mono (by simp))
 have z1:w.heap.size<w1.heap.size:=by have:=hb1.size;simp at this;omega
 clear hb1
 go_upto_region 2 with fail
 refine wp_world ?_
 intro W2 hW2
 have R2:Hid (BlkV W2 w.heap.size 0 0 0 ⟨#[]⟩):=by rw [hW2];exact R1.out.below ((Below.refl w1.heap.size w1).alloc (Nat.le_refl _) _) z1
 have V2:Hid (BlkV W2 w1.heap.size 1 n d S):=by rw [hW2];constructor<;>simp (maxDischargeDepth:=12) [go_sem]
 have B2:Below w.heap.size w W2:=by rw [hW2];exact B1.alloc B1.size _
 clear hW2 R1 B1 z1
 obtain ⟨r0,r1,r2,r3,r4,r5,r6,r7⟩:=R2.out
 obtain ⟨v0,v1,v2,v3, -, -, -, -⟩:=V2.out
 go_wp2
 generalize hW9:World.setCell _ _ _=W9
 have b9:BlkV W9 w.heap.size 0 0 0 ⟨#[]⟩:=by rw [← hW9];exact R2.out.four
 have hB9:Below w.heap.size w W9:=by rw [← hW9];exact (((B2.setCell (by simp) _).setCell (by simp) _).setCell (by simp) _).setCell (by simp) _
 clear hW9
 obtain ⟨x0,x1,x2,x3, -, -, -, -⟩:=b9
 refine bodyPost_ret (by simp [results,Tryz.results118,go_sem,x0,x1,x2,x3];try rfl) rfl ?_
 exact ⟨rfl,hB9⟩
theorem num_yes1 (s S:ByteArray) (k n d E:Int) (w:World) (h1: -9223372036854775808≤n) (h2:n≤9223372036854775807)
  (PA:Hid (∀ W:World,Pow W→Errs W→6≤W.heap.size→Calls Tryz.prog 117 #[.string s] W fun e w'=>e=.returned (.tuple #[.agg #[.int .i64 k,.int .i64 n,.int .i64 d,.string S],.int .i64 E])∧Below W.heap.size W w'))
  (ht:Pow w) (he:Errs w) (h8:6≤w.heap.size) (hE:E=0) (hk:k=1) (hn:0≤n) (hm:n≤1099511627776):
  Calls Tryz.prog 118 #[.string s] w fun e w'=>e=.returned (.tuple #[.agg #[.int .i64 k,.int .i64 n,.int .i64 d,.string S],.bool true])∧Below w.heap.size w w':=by
 subst hE
 subst hk
 have HE:Hid (Errs w):=he
 have HP:Hid (Pow w):=ht
 clear he ht
 go_enter Tryz.func118,Tryz.ntmps118
 go_wp2_with fail
 refine (PA.out _ (HP.out.below ((Below.refl _ w).alloc (Nat.le_refl _) _)) (HE.out.alloc h8 _) (by simp;omega)).mono ?_
 rintro e w1 ⟨rfl,hb1⟩
 have R1:Hid (BlkV w1 w.heap.size 0 0 0 ⟨#[]⟩):=BlkV.below (by constructor<;>simp (maxDischargeDepth:=12) [go_sem]) hb1 (by simp)
 have B1:Below w.heap.size w w1:=((Below.refl _ w).alloc (Nat.le_refl _) _).trans (hb1.mono (by simp))
 have z1:w.heap.size<w1.heap.size:=by have:=hb1.size;simp at this;omega
 clear hb1
 go_upto_region 2 with fail
 refine wp_world ?_
 intro W2 hW2
 have R2:Hid (BlkV W2 w.heap.size 0 0 0 ⟨#[]⟩):=by rw [hW2];exact R1.out.below ((Below.refl w1.heap.size w1).alloc (Nat.le_refl _) _) z1
 have V2:Hid (BlkV W2 w1.heap.size 1 n d S):=by rw [hW2];constructor<;>simp (maxDischargeDepth:=12) [go_sem]
 have B2:Below w.heap.size w W2:=by rw [hW2];exact B1.alloc B1.size _
 clear hW2 R1 B1 z1
 obtain ⟨r0,r1,r2,r3,r4,r5,r6,r7⟩:=R2.out
 obtain ⟨v0,v1,v2,v3, -, -, -, -⟩:=V2.out
 go_wp2
 generalize hW9:World.setCell _ _ _=W9
 have b9:BlkV W9 w.heap.size 1 n d S:=by rw [← hW9];exact R2.out.four
 have hB9:Below w.heap.size w W9:=by rw [← hW9];exact (((B2.setCell (by simp) _).setCell (by simp) _).setCell (by simp) _).setCell (by simp) _
 clear hW9
 obtain ⟨x0,x1,x2,x3, -, -, -, -⟩:=b9
 refine bodyPost_ret (by simp [results,Tryz.results118,go_sem,x0,x1,x2,x3];try rfl) rfl ?_
 exact ⟨rfl,hB9⟩
def zeroV:Val:=⟨0,0,0,⟨#[]⟩⟩
def numB (l:List UInt8):Val×Bool:=
 if (prs l).2=0∧(prs l).1.k=1∧0≤(prs l).1.n∧(prs l).1.n≤1099511627776 then ((prs l).1,true) else (zeroV,false)
def Val.agg (v:Val):Value:=.agg #[.int .i64 v.k,.int .i64 v.n,.int .i64 v.d,.string v.s]
theorem lprs_fits (l:List UInt8):(prs l).1.Fits:=by
 have hz:Val.Fits ⟨0,0,0,⟨#[]⟩⟩:=⟨by simp,by simp,by simp,by simp⟩
 unfold prs
 split
 ·split
  ·exact gss_fits l
  ·exact hz
 ·exact hz
theorem lnumber_any (s:ByteArray) (w:World) (hs:s.size≤35184372088830) (ht:Pow w) (he:Errs w) (h8:6≤w.heap.size):
  Calls Tryz.prog 118 #[.string s] w fun e w'=>e=.returned (.tuple #[(numB s.data.toList).1.agg,.bool (numB s.data.toList).2])∧Below w.heap.size w w':=by
 have PA:=fun (W:World) (g1:Pow W) (g2:Errs W) (g3:6≤W.heap.size)=>parse_any s W hs g1 g2 g3
 have hf:=lprs_fits s.data.toList
 unfold numB
 obtain ⟨g,hg⟩:∃ g,prs s.data.toList=g:=⟨_,rfl⟩
 rw [hg] at PA hf ⊢
 obtain ⟨⟨k,n,d,S⟩,E⟩:=g
 dsimp only at PA hf ⊢
 by_cases hE:E=0
 ·by_cases hk:k=1
  ·by_cases hn:0≤n
   ·by_cases hm:n≤1099511627776
    ·rw [if_pos ⟨hE,hk,hn,hm⟩]
     exact num_yes1 s S k n d E w hf.n1 hf.n2 PA ht he h8 hE hk hn hm
    ·rw [if_neg (fun x=>hm x.2.2.2)]
     exact num_no4 s S k n d E w hf.n1 hf.n2 PA ht he h8 hE hk hn (by omega)
   ·rw [if_neg (fun x=>hn x.2.2.1)]
    exact num_no3 s S k n d E w hf.n1 hf.n2 PA ht he h8 hE hk (by omega)
  ·rw [if_neg (fun x=>hk x.2.1)]
   exact num_no2 s S k n d E w hf.n1 hf.n2 PA ht he h8 hE hk
 ·rw [if_neg (fun x=>hE x.1)]
  exact num_no1 s S k n d E w hf.n1 hf.n2 PA ht he h8 hE
theorem iv_1 (s A B:ByteArray) (a b:Val) (br oa ob:Bool) (w:World)
  (CU:Hid (∀ W:World,Calls Tryz.prog 147 #[.string s,.string ⟨#[44]⟩] W fun e w'=>e=.returned (.tuple #[.string A,.string B,.bool br])∧∃ k,w'=W.drewN k))
  (NA:Hid (∀ W:World,Pow W→Errs W→6≤W.heap.size→Calls Tryz.prog 118 #[.string A] W fun e w'=>e=.returned (.tuple #[.agg #[.int .i64 a.k,.int .i64 a.n,.int .i64 a.d,.string a.s],.bool oa])∧Below W.heap.size W w'))
  (NB:Hid (∀ W:World,Pow W→Errs W→6≤W.heap.size→Calls Tryz.prog 118 #[.string B] W fun e w'=>e=.returned (.tuple #[.agg #[.int .i64 b.k,.int .i64 b.n,.int .i64 b.d,.string b.s],.bool ob])∧Below W.heap.size W w'))
  (ht:Pow w) (he:Errs w) (h8:6≤w.heap.size) (h1:br=false):
  Calls Tryz.prog 116 #[.string s] w fun e w'=>e=.returned (.bool false)∧Below w.heap.size w w':=by
 subst h1
 obtain ⟨ak,an,ad,aS⟩:=a
 obtain ⟨bk,bn,bd,bS⟩:=b
 dsimp only at NA NB ⊢
 have HE:Hid (Errs w):=he
 have HP:Hid (Pow w):=ht
 clear he ht
 go_enter Tryz.func116,Tryz.ntmps116
 go_wp2_with fail
 refine (CU.out _).mono ?_
 rintro e w0 ⟨rfl,k,rfl⟩
 have B0:Below w.heap.size w (w.drewN k):=bdrewN k (Below.refl _ w)
 go_wp2_with fail
 refine (NA.out _ (HP.out.below B0) (HE.out.below B0 h8) h8).mono ?_
 rintro e w1 ⟨rfl,hb1⟩
 have B1:Below w.heap.size w w1:=B0.trans (hb1.mono (Nat.le_refl _))
 have z1:w.heap.size≤w1.heap.size:=B1.size
 clear hb1 B0
 go_upto_region 3 with fail
 refine wp_world ?_
 intro W2 hW2
 have V2:Hid (BlkV W2 w1.heap.size ak an ad aS):=by rw [hW2];constructor<;>simp (maxDischargeDepth:=12) [go_sem]
 have B2:Below w.heap.size w W2:=by rw [hW2];exact B1.alloc B1.size _
 have z2:w1.heap.size<W2.heap.size:=by rw [hW2];simp
 clear hW2
 go_wp2
 go_ret
 exact ⟨rfl,B2⟩
theorem iv_2 (s A B:ByteArray) (a b:Val) (br oa ob:Bool) (w:World)
  (CU:Hid (∀ W:World,Calls Tryz.prog 147 #[.string s,.string ⟨#[44]⟩] W fun e w'=>e=.returned (.tuple #[.string A,.string B,.bool br])∧∃ k,w'=W.drewN k))
  (NA:Hid (∀ W:World,Pow W→Errs W→6≤W.heap.size→Calls Tryz.prog 118 #[.string A] W fun e w'=>e=.returned (.tuple #[.agg #[.int .i64 a.k,.int .i64 a.n,.int .i64 a.d,.string a.s],.bool oa])∧Below W.heap.size W w'))
  (NB:Hid (∀ W:World,Pow W→Errs W→6≤W.heap.size→Calls Tryz.prog 118 #[.string B] W fun e w'=>e=.returned (.tuple #[.agg #[.int .i64 b.k,.int .i64 b.n,.int .i64 b.d,.string b.s],.bool ob])∧Below W.heap.size W w'))
  (ht:Pow w) (he:Errs w) (h8:6≤w.heap.size) (h1:br=true) (h2:oa=false):
  Calls Tryz.prog 116 #[.string s] w fun e w'=>e=.returned (.bool false)∧Below w.heap.size w w':=by
 subst h1
 subst h2
 obtain ⟨ak,an,ad,aS⟩:=a
 obtain ⟨bk,bn,bd,bS⟩:=b
 dsimp only at NA NB ⊢
 have HE:Hid (Errs w):=he
 have HP:Hid (Pow w):=ht
 clear he ht
 go_enter Tryz.func116,Tryz.ntmps116
 go_wp2_with fail
 refine (CU.out _).mono ?_
 rintro e w0 ⟨rfl,k,rfl⟩
 have B0:Below w.heap.size w (w.drewN k):=bdrewN k (Below.refl _ w)
 go_wp2_with fail
 refine (NA.out _ (HP.out.below B0) (HE.out.below B0 h8) h8).mono ?_
 rintro e w1 ⟨rfl,hb1⟩
 have B1:Below w.heap.size w w1:=B0.trans (hb1.mono (Nat.le_refl _))
 have z1:w.heap.size≤w1.heap.size:=B1.size
 clear hb1 B0
 go_upto_region 3 with fail
 refine wp_world ?_
 intro W2 hW2
 have V2:Hid (BlkV W2 w1.heap.size ak an ad aS):=by rw [hW2];constructor<;>simp (maxDischargeDepth:=12) [go_sem]
 have B2:Below w.heap.size w W2:=by rw [hW2];exact B1.alloc B1.size _
 have z2:w1.heap.size<W2.heap.size:=by rw [hW2];simp
 clear hW2
 go_wp2
 go_ret
 exact ⟨rfl,B2⟩
theorem iv_3 (s A B:ByteArray) (a b:Val) (br oa ob:Bool) (w:World)
  (CU:Hid (∀ W:World,Calls Tryz.prog 147 #[.string s,.string ⟨#[44]⟩] W fun e w'=>e=.returned (.tuple #[.string A,.string B,.bool br])∧∃ k,w'=W.drewN k))
  (NA:Hid (∀ W:World,Pow W→Errs W→6≤W.heap.size→Calls Tryz.prog 118 #[.string A] W fun e w'=>e=.returned (.tuple #[.agg #[.int .i64 a.k,.int .i64 a.n,.int .i64 a.d,.string a.s],.bool oa])∧Below W.heap.size W w'))
  (NB:Hid (∀ W:World,Pow W→Errs W→6≤W.heap.size→Calls Tryz.prog 118 #[.string B] W fun e w'=>e=.returned (.tuple #[.agg #[.int .i64 b.k,.int .i64 b.n,.int .i64 b.d,.string b.s],.bool ob])∧Below W.heap.size W w'))
  (ht:Pow w) (he:Errs w) (h8:6≤w.heap.size) (h1:br=true) (h2:oa=true) (h3:B=⟨#[42]⟩):
  Calls Tryz.prog 116 #[.string s] w fun e w'=>e=.returned (.bool true)∧Below w.heap.size w w':=by
 subst h1
 subst h2
 subst h3
 obtain ⟨ak,an,ad,aS⟩:=a
 obtain ⟨bk,bn,bd,bS⟩:=b
 dsimp only at NA NB ⊢
 have HE:Hid (Errs w):=he
 have HP:Hid (Pow w):=ht
 clear he ht
 go_enter Tryz.func116,Tryz.ntmps116
 go_wp2_with fail
 refine (CU.out _).mono ?_
 rintro e w0 ⟨rfl,k,rfl⟩
 have B0:Below w.heap.size w (w.drewN k):=bdrewN k (Below.refl _ w)
 go_wp2_with fail
 refine (NA.out _ (HP.out.below B0) (HE.out.below B0 h8) h8).mono ?_
 rintro e w1 ⟨rfl,hb1⟩
 have B1:Below w.heap.size w w1:=B0.trans (hb1.mono (Nat.le_refl _))
 have z1:w.heap.size≤w1.heap.size:=B1.size
 clear hb1 B0
 go_upto_region 3 with fail
 refine wp_world ?_
 intro W2 hW2
 have V2:Hid (BlkV W2 w1.heap.size ak an ad aS):=by rw [hW2];constructor<;>simp (maxDischargeDepth:=12) [go_sem]
 have B2:Below w.heap.size w W2:=by rw [hW2];exact B1.alloc B1.size _
 have z2:w1.heap.size<W2.heap.size:=by rw [hW2];simp
 clear hW2
 go_wp2
 go_ret
 exact ⟨rfl,B2⟩
theorem iv_4 (s A B:ByteArray) (a b:Val) (br oa ob:Bool) (w:World)
  (CU:Hid (∀ W:World,Calls Tryz.prog 147 #[.string s,.string ⟨#[44]⟩] W fun e w'=>e=.returned (.tuple #[.string A,.string B,.bool br])∧∃ k,w'=W.drewN k))
  (NA:Hid (∀ W:World,Pow W→Errs W→6≤W.heap.size→Calls Tryz.prog 118 #[.string A] W fun e w'=>e=.returned (.tuple #[.agg #[.int .i64 a.k,.int .i64 a.n,.int .i64 a.d,.string a.s],.bool oa])∧Below W.heap.size W w'))
  (NB:Hid (∀ W:World,Pow W→Errs W→6≤W.heap.size→Calls Tryz.prog 118 #[.string B] W fun e w'=>e=.returned (.tuple #[.agg #[.int .i64 b.k,.int .i64 b.n,.int .i64 b.d,.string b.s],.bool ob])∧Below W.heap.size W w'))
  (ht:Pow w) (he:Errs w) (h8:6≤w.heap.size) (h1:br=true) (h2:oa=true) (h3:¬ B=⟨#[42]⟩) (h4:ob=false):
  Calls Tryz.prog 116 #[.string s] w fun e w'=>e=.returned (.bool false)∧Below w.heap.size w w':=by
 subst h1
 subst h2
 subst h4
 have h3a:(B.toList==[42])=false:=by
  simp only [beq_eq_false_iff_ne,ne_eq]
  exact fun h=>h3 (by rw [ByteArray.toList_eq] at h;exact ba_eq h)
 obtain ⟨ak,an,ad,aS⟩:=a
 obtain ⟨bk,bn,bd,bS⟩:=b
 dsimp only at NA NB ⊢
 have HE:Hid (Errs w):=he
 have HP:Hid (Pow w):=ht
 clear he ht
 go_enter Tryz.func116,Tryz.ntmps116
 go_wp2_with fail
 refine (CU.out _).mono ?_
 rintro e w0 ⟨rfl,k,rfl⟩
 have B0:Below w.heap.size w (w.drewN k):=bdrewN k (Below.refl _ w)
 go_wp2_with fail
 refine (NA.out _ (HP.out.below B0) (HE.out.below B0 h8) h8).mono ?_
 rintro e w1 ⟨rfl,hb1⟩
 have B1:Below w.heap.size w w1:=B0.trans (hb1.mono (Nat.le_refl _))
 have z1:w.heap.size≤w1.heap.size:=B1.size
 clear hb1 B0
 go_upto_region 3 with fail
 refine wp_world ?_
 intro W2 hW2
 have V2:Hid (BlkV W2 w1.heap.size ak an ad aS):=by rw [hW2];constructor<;>simp (maxDischargeDepth:=12) [go_sem]
 have B2:Below w.heap.size w W2:=by rw [hW2];exact B1.alloc B1.size _
 have z2:w1.heap.size<W2.heap.size:=by rw [hW2];simp
 clear hW2
 go_wp2_with fail
 refine (NB.out _ (HP.out.below B2) (HE.out.below B2 h8) (by omega)).mono ?_
 rintro e w3 ⟨rfl,hb3⟩
 have V3:Hid (BlkV w3 w1.heap.size ak an ad aS):=V2.out.below hb3 z2
 have B3:Below w.heap.size w w3:=B2.trans (hb3.mono B2.size)
 have z3:w1.heap.size<w3.heap.size:=by have:=hb3.size;omega
 clear hb3 V2 B2
 go_upto_region 8 with fail
 refine wp_world ?_
 intro W4 hW4
 have V4:Hid (BlkV W4 w1.heap.size ak an ad aS):=by rw [hW4];exact V3.out.below ((Below.refl w3.heap.size w3).alloc (Nat.le_refl _) _) z3
 have U4:Hid (BlkV W4 w3.heap.size bk bn bd bS):=by rw [hW4];constructor<;>simp (maxDischargeDepth:=12) [go_sem]
 have B4:Below w.heap.size w W4:=by rw [hW4];exact B3.alloc B3.size _
 clear hW4 V3 B3
 obtain ⟨v0,v1,v2,v3, -, -, -, -⟩:=V4.out
 obtain ⟨u0,u1,u2,u3, -, -, -, -⟩:=U4.out
 go_wp2
 go_ret
 exact ⟨rfl,B4⟩
theorem iv_5 (s A B:ByteArray) (a b:Val) (br oa ob:Bool) (w:World)
  (CU:Hid (∀ W:World,Calls Tryz.prog 147 #[.string s,.string ⟨#[44]⟩] W fun e w'=>e=.returned (.tuple #[.string A,.string B,.bool br])∧∃ k,w'=W.drewN k))
  (NA:Hid (∀ W:World,Pow W→Errs W→6≤W.heap.size→Calls Tryz.prog 118 #[.string A] W fun e w'=>e=.returned (.tuple #[.agg #[.int .i64 a.k,.int .i64 a.n,.int .i64 a.d,.string a.s],.bool oa])∧Below W.heap.size W w'))
  (NB:Hid (∀ W:World,Pow W→Errs W→6≤W.heap.size→Calls Tryz.prog 118 #[.string B] W fun e w'=>e=.returned (.tuple #[.agg #[.int .i64 b.k,.int .i64 b.n,.int .i64 b.d,.string b.s],.bool ob])∧Below W.heap.size W w'))
  (ht:Pow w) (he:Errs w) (h8:6≤w.heap.size) (h1:br=true) (h2:oa=true) (h3:¬ B=⟨#[42]⟩) (h4:ob=true):
  Calls Tryz.prog 116 #[.string s] w fun e w'=>e=.returned (.bool (decide (a.n≤b.n)))∧Below w.heap.size w w':=by
 subst h1
 subst h2
 subst h4
 have h3a:(B.toList==[42])=false:=by
  simp only [beq_eq_false_iff_ne,ne_eq]
  exact fun h=>h3 (by rw [ByteArray.toList_eq] at h;exact ba_eq h)
 obtain ⟨ak,an,ad,aS⟩:=a
 obtain ⟨bk,bn,bd,bS⟩:=b
 dsimp only at NA NB ⊢
 have HE:Hid (Errs w):=he
 have HP:Hid (Pow w):=ht
 clear he ht
 go_enter Tryz.func116,Tryz.ntmps116
 go_wp2_with fail
 refine (CU.out _).mono ?_
 rintro e w0 ⟨rfl,k,rfl⟩
 have B0:Below w.heap.size w (w.drewN k):=bdrewN k (Below.refl _ w)
 go_wp2_with fail
 refine (NA.out _ (HP.out.below B0) (HE.out.below B0 h8) h8).mono ?_
 rintro e w1 ⟨rfl,hb1⟩
 have B1:Below w.heap.size w w1:=B0.trans (hb1.mono (Nat.le_refl _))
 have z1:w.heap.size≤w1.heap.size:=B1.size
 clear hb1 B0
 go_upto_region 3 with fail
 refine wp_world ?_
 intro W2 hW2
 have V2:Hid (BlkV W2 w1.heap.size ak an ad aS):=by rw [hW2];constructor<;>simp (maxDischargeDepth:=12) [go_sem]
 have B2:Below w.heap.size w W2:=by rw [hW2];exact B1.alloc B1.size _
 have z2:w1.heap.size<W2.heap.size:=by rw [hW2];simp
 clear hW2
 go_wp2_with fail
 refine (NB.out _ (HP.out.below B2) (HE.out.below B2 h8) (by omega)).mono ?_
 rintro e w3 ⟨rfl,hb3⟩
 have V3:Hid (BlkV w3 w1.heap.size ak an ad aS):=V2.out.below hb3 z2
 have B3:Below w.heap.size w w3:=B2.trans (hb3.mono B2.size)
 have z3:w1.heap.size<w3.heap.size:=by have:=hb3.size;omega
 clear hb3 V2 B2
 go_upto_region 8 with fail
 refine wp_world ?_
 intro W4 hW4
 have V4:Hid (BlkV W4 w1.heap.size ak an ad aS):=by rw [hW4];exact V3.out.below ((Below.refl w3.heap.size w3).alloc (Nat.le_refl _) _) z3
 have U4:Hid (BlkV W4 w3.heap.size bk bn bd bS):=by rw [hW4];constructor<;>simp (maxDischargeDepth:=12) [go_sem]
 have B4:Below w.heap.size w W4:=by rw [hW4];exact B3.alloc B3.size _
 clear hW4 V3 B3
 obtain ⟨v0,v1,v2,v3, -, -, -, -⟩:=V4.out
 obtain ⟨u0,u1,u2,u3, -, -, -, -⟩:=U4.out
 go_wp2
 go_ret
 exact ⟨rfl,B4⟩
def ivB (l:List UInt8):Bool:=
 (cutC l).2.2 && (numB (cutC l).1).2 && (decide ((cutC l).2.1=[42]) || ((numB (cutC l).2.1).2 && decide ((numB (cutC l).1).1.n≤(numB (cutC l).2.1).1.n)))
theorem cutC_len:∀ (l:List UInt8),(cutC l).1.length≤l.length∧(cutC l).2.1.length≤l.length
 | []=>by simp [cutC]
 | c::r=>by
  have ih:=cutC_len r
  unfold cutC
  split
  ·simp
  ·simp;omega
theorem iv_any (s:ByteArray) (w:World) (hs:s.size≤35184372088830) (ht:Pow w) (he:Errs w) (h8:6≤w.heap.size):
  Calls Tryz.prog 116 #[.string s] w fun e w'=>e=.returned (.bool (ivB s.data.toList))∧Below w.heap.size w w':=by
 have CU:=fun (W:World)=>comma_any s W (by omega)
 have hl:s.data.toList.length=s.size:=by simp
 have hc:=cutC_len s.data.toList
 unfold ivB
 obtain ⟨c,hg⟩:∃ c,cutC s.data.toList=c:=⟨_,rfl⟩
 rw [hg] at CU hc ⊢
 obtain ⟨A,B,br⟩:=c
 dsimp only at CU hc ⊢
 have NA:=fun (W:World) (g1:Pow W) (g2:Errs W) (g3:6≤W.heap.size)=>lnumber_any ⟨A.toArray⟩ W (by show A.toArray.size≤_;simp;omega) g1 g2 g3
 have NB:=fun (W:World) (g1:Pow W) (g2:Errs W) (g3:6≤W.heap.size)=>lnumber_any ⟨B.toArray⟩ W (by show B.toArray.size≤_;simp;omega) g1 g2 g3
 simp only [] at NA NB
 cases br
 ·exact iv_1 s _ _ _ _ _ _ _ w CU NA NB ht he h8 rfl
 ·cases ha:(numB A).2
  ·exact iv_2 s _ _ _ _ _ _ _ w CU NA NB ht he h8 rfl ha
  ·by_cases hb:B=[42]
   ·rw [decide_eq_true hb]
    subst hb
    exact iv_3 s _ _ _ _ _ _ _ w CU NA NB ht he h8 rfl ha rfl
   ·have hb':¬ (⟨B.toArray⟩:ByteArray)=⟨#[42]⟩:=by
     intro h
     apply hb
     have:=congrArg (fun x:ByteArray=>x.data.toList) h
     simpa using this
    rw [decide_eq_false hb]
    cases hq:(numB B).2
    ·exact iv_4 s _ _ _ _ _ _ _ w CU NA NB ht he h8 rfl ha hb' hq
    ·have q:=iv_5 s _ _ _ _ _ _ _ w CU NA NB ht he h8 rfl ha hb' hq
     simpa using q
end Go.Proofs.YticnfeolbfmgfaaGreatDoor
namespace Go.Proofs.YticnfeolbfmgfaaGreatDoor
open Go.RowKit LX Go.Shelf
set_option linter.unusedVariables false
inductive Rd (α:Type) where
 | bad (e a:Int)
 | ok (x:α) (r:List (Tok Val))
def Rd.bind {α β:Type}:Rd α→(α→List (Tok Val)→Rd β)→Rd β
 | .bad e a,_=>.bad e a
 | .ok x r,f=>f x r
theorem Rd.bind_bad {α β:Type} (e a:Int) (f:α→List (Tok Val)→Rd β):(Rd.bad e a:Rd α).bind f=.bad e a:=rfl
theorem Rd.bind_ok {α β:Type} (x:α) (r:List (Tok Val)) (f:α→List (Tok Val)→Rd β):(Rd.ok x r).bind f=f x r:=rfl
def txB (t:Tok Val):ByteArray:=⟨t.x.toArray⟩
def rNext (sz:Nat):List (Tok Val)→Rd (Tok Val)
 | []=>.bad 70 sz
 | t::r=>.ok t r
def rBeg (sz:Nat) (d:Int):List (Tok Val)→Rd (Tok Val)
 | []=>.bad 70 sz
 | t::r=>if 24<d then .bad 71 t.at_ else .ok t r
def rExp (sz:Nat) (c:List UInt8):List (Tok Val)→Rd Unit
 | []=>.bad 70 sz
 | t::r=>if t.x=c then .ok () r else .bad 70 t.at_
def rName (sz:Nat):List (Tok Val)→Rd ByteArray
 | []=>.bad 70 sz
 | t::r=>if nameB (txB t) then .ok (txB t) r else .bad 70 t.at_
def clos:List (Tok Val)→Bool
 | []=>false
 | t::_=>decide (t.x=[41])
def rNms (sz:Nat):List (Tok Val)→Rd (List ByteArray)
 | []=>.bad 70 sz
 | t::r=>if t.x=[41] then .ok [] (t::r) else if nameB (txB t) then (rNms sz r).bind fun l r'=>.ok (txB t::l) r' else .bad 70 t.at_
def rList (sz:Nat) (ts:List (Tok Val)):Rd (List ByteArray):=
 (rExp sz [40] ts).bind fun _ r=>(rNms sz r).bind fun l r'=>(rExp sz [41] r').bind fun _ r''=>.ok l r''
def rMany {α:Type} (p:List (Tok Val)→Rd α) (more:Bool):Nat→Nat→List (Tok Val)→Rd (List α)
 | 0,_,_=>.bad 0 0
 | n+1,k,ts=>if 0<k∨(more=true∧clos ts=false) then (p ts).bind fun a r=>(rMany p more n (k - 1) r).bind fun l r'=>.ok (a::l) r' else .ok [] ts
def hdF (k:Int):List UInt8:=
 if k=4 then [61] else if k=5 then [60] else if k=6 then [60,61] else if k=7 then [110,111,116] else if k=8 then [97,110,100] else if k=9 then [111,114]
 else if k=10 then [101,120,105,115,116,115] else if k=11 then [112,114,101,118] else if k=12 then [110,101,120,116] else if k=13 then [111,110,99,101] else if k=14 then [115,111,111,110]
 else if k=15 then [115,105,110,99,101] else if k=16 then [117,110,116,105,108] else if k=17 then [98,101,102,111,114,101] else if k=18 then [97,102,116,101,114] else if k=19 then [97,103,103]
 else if k=20 then [108,101,116] else if k=21 then [108,101,116,112,97,115,116] else if k=22 then [106,111,105,110] else []
def hdT (k:Int):List UInt8:=if k=3 then [43] else if k=4 then [45] else if k=5 then [42] else []
def hdR (k:Int):List UInt8:=if k=1 then [97,110,121] else if k=2 then [116,101,115,116] else if k=3 then [97,108,116] else if k=4 then [115,101,113] else if k=5 then [115,116,97,114] else []
def hdO (k:Int):List UInt8:=if k=1 then [115,117,109] else if k=2 then [99,110,116] else if k=3 then [109,105,110] else if k=4 then [109,97,120] else if k=5 then [97,118,103] else if k=6 then [109,101,100] else []
def kindIn (h:Int→List UInt8) (x:List UInt8) (a:Int):Nat→Option Int
 | 0=>none
 | n+1=>if h a=x then some a else kindIn h x (a+1) n
structure Shp where
 named:Bool
 reck:Bool
 listed:Bool
 timed:Bool
 terms:Nat
 rgx:Nat
 subs:Nat
 more:Bool
def shp (k:Int):Shp:=
 ⟨decide (k=3∨k=19∨k=20∨k=21),decide (k=19),decide (k=10∨k=19∨k=20∨k=21),decide (11≤k∧k≤18),if 4≤k∧k≤6 then 2 else 0,if k=17∨k=18 then 1 else 0,if k=7∨k=10∨(11≤k∧k≤14)∨k=19∨k=22 then 1 else if k=8∨k=9∨k=15∨k=16∨k=20∨k=21 then 2 else 0,decide (k=22)⟩
def tmV (x:ByteArray):Tm:=.mk 1 x zeroV []
def tmC (v:Val):Tm:=.mk 2 ⟨#[]⟩ v []
def tmO (k:Int) (l:List Tm):Tm:=.mk k ⟨#[]⟩ zeroV l
def pT (sz:Nat):Nat→Int→List (Tok Val)→Rd Tm
 | 0,_,_=>.bad 0 0
 | n+1,d,ts=>(rBeg sz d ts).bind fun t r=>
  if nameB (txB t) then .ok (tmV (txB t)) r
  else if t.k=6 then .ok (tmC t.v) r
  else if t.x=[40] then (rNext sz r).bind fun h r2=>
   match kindIn hdT h.x 3 3 with
   | none=>.bad 70 h.at_
   | some k=>(rMany (pT sz n (d+1)) false n 2 r2).bind fun l r3=>(rExp sz [41] r3).bind fun _ r4=>.ok (tmO k l) r4
  else .bad 70 t.at_
def ivOf (x:List UInt8):Int×Int×Bool:=
 let l:=(x.drop 1).take (x.length - 2)
 if (cutC l).2.1=[42] then ((numB (cutC l).1).1.n,0,true) else ((numB (cutC l).1).1.n,(numB (cutC l).2.1).1.n,false)
def rIv (sz:Nat):List (Tok Val)→Rd (Int×Int×Bool)
 | []=>.bad 70 sz
 | t::r=>if t.k=5 then .ok (ivOf t.x) r else .bad 70 t.at_
def rOp (sz:Nat):List (Tok Val)→Rd Int
 | []=>.bad 70 sz
 | t::r=>match kindIn hdO t.x 1 6 with
  | none=>.bad 70 t.at_
  | some k=>.ok k r
def rIf {α:Type} (b:Bool) (z:α) (p:List (Tok Val)→Rd α) (ts:List (Tok Val)):Rd α:=if b then p ts else .ok z ts
def pShaped (sz n:Nat) (pt:List (Tok Val)→Rd Tm) (pf:List (Tok Val)→Rd Fm) (pr:List (Tok Val)→Rd Rx) (k:Int) (ts:List (Tok Val)):Rd Fm:=
 (rIf (shp k).named ⟨#[]⟩ (rName sz) ts).bind fun nm r1=>
 (rIf (shp k).reck 0 (rOp sz) r1).bind fun op r2=>
 (rIf (shp k).reck [] (fun r=>(rName sz r).bind fun x r'=>.ok [x] r') r2).bind fun v0 r3=>
 (rIf (shp k).listed [] (rList sz) r3).bind fun vs r4=>
 (rIf (shp k).timed (0,0,false) (rIv sz) r4).bind fun iv r5=>
 (rMany pt false n (shp k).terms r5).bind fun tms r6=>
 (rMany pr false n (shp k).rgx r6).bind fun rx r7=>
 (rMany pf (shp k).more n (shp k).subs r7).bind fun fs r8=>
 .ok (.mk k nm op (v0++vs) tms iv.1 iv.2.1 iv.2.2 fs rx) r8
def fmK (k:Int):Fm:=.mk k ⟨#[]⟩ 0 [] [] 0 0 false [] []
def fmP (x:ByteArray) (l:List Tm):Fm:=.mk 3 x 0 [] l 0 0 false [] []
def pHead (sz n:Nat) (pt:List (Tok Val)→Rd Tm) (pf:List (Tok Val)→Rd Fm) (pr:List (Tok Val)→Rd Rx) (ts:List (Tok Val)):Rd Fm:=
 (rNext sz ts).bind fun t r=>
  if nameB (txB t) then (rMany pt true n 0 r).bind fun l r'=>.ok (fmP (txB t) l) r'
  else match kindIn hdF t.x 4 19 with
   | none=>.bad 70 t.at_
   | some k=>pShaped sz n pt pf pr k r
def pForm (sz n:Nat) (pt:List (Tok Val)→Rd Tm) (pf:List (Tok Val)→Rd Fm) (pr:List (Tok Val)→Rd Rx) (d:Int) (ts:List (Tok Val)):Rd Fm:=
 (rBeg sz d ts).bind fun t r=>
  if t.x=[116,114,117,101] then .ok (fmK 1) r
  else if t.x=[102,97,108,115,101] then .ok (fmK 2) r
  else if t.x=[40] then (pHead sz n pt pf pr r).bind fun f r'=>(rExp sz [41] r').bind fun _ r''=>.ok f r''
  else .bad 70 t.at_
def rxO (k:Int) (fs:List Fm) (rs:List Rx):Rx:=.mk k fs rs
def pHeadR (sz n:Nat) (pf:List (Tok Val)→Rd Fm) (pr:List (Tok Val)→Rd Rx) (ts:List (Tok Val)):Rd Rx:=
 (rNext sz ts).bind fun t r=>
  if t.x=hdR 2 then (rMany pf false n 1 r).bind fun l r'=>.ok (rxO 2 l []) r'
  else if t.x=hdR 3 then (rMany pr false n 2 r).bind fun l r'=>.ok (rxO 3 [] l) r'
  else if t.x=hdR 4 then (rMany pr false n 2 r).bind fun l r'=>.ok (rxO 4 [] l) r'
  else if t.x=hdR 5 then (rMany pr false n 1 r).bind fun l r'=>.ok (rxO 5 [] l) r'
  else .bad 70 t.at_
def pRegex (sz n:Nat) (pf:List (Tok Val)→Rd Fm) (pr:List (Tok Val)→Rd Rx) (d:Int) (ts:List (Tok Val)):Rd Rx:=
 (rBeg sz d ts).bind fun t r=>
  if t.x=hdR 1 then .ok (rxO 1 [] []) r
  else if t.x=[40] then (pHeadR sz n pf pr r).bind fun f r'=>(rExp sz [41] r').bind fun _ r''=>.ok f r''
  else .bad 70 t.at_
def pFR (sz:Nat):Nat→(Int→List (Tok Val)→Rd Fm)×(Int→List (Tok Val)→Rd Rx)
 | 0=>(fun _ _=>.bad 0 0,fun _ _=>.bad 0 0)
 | n+1=>(fun d ts=>pForm sz n (pT sz n (d+1)) ((pFR sz n).1 (d+1)) ((pFR sz n).2 (d+1)) d ts,fun d ts=>pRegex sz n ((pFR sz n).1 (d+1)) ((pFR sz n).2 (d+1)) d ts)
def pAll (sz:Nat) (ts:List (Tok Val)):Rd Fm:=
 ((pFR sz (ts.length+1)).1 1 ts).bind fun f r=>
  match r with
  | []=>.ok f []
  | t::_=>.bad 70 t.at_
def Sh {α:Type} (m:Nat) (x:Rd α):Prop:=∀ a r,x=.ok a r→r.length≤m
theorem Sh.bind {α β:Type} {m m':Nat} {x:Rd α} {f:α→List (Tok Val)→Rd β} (hx:Sh m x) (hf:∀ a r,r.length≤m→Sh m' (f a r)):Sh m' (x.bind f):=by
 cases x with
 | bad e a=>intro b r h;cases h
 | ok a r=>exact hf a r (hx a r rfl)
theorem Sh.bad {α:Type} (m:Nat) (e a:Int):Sh m (Rd.bad e a:Rd α):=fun _ _ h=>by cases h
theorem Sh.ok {α:Type} {m:Nat} (x:α) {r:List (Tok Val)} (h:r.length≤m):Sh m (Rd.ok x r):=fun _ _ e=>by cases e;exact h
theorem Sh.mono {α:Type} {m m':Nat} {x:Rd α} (h:Sh m x) (hm:m≤m'):Sh m' x:=fun a r e=>Nat.le_trans (h a r e) hm
theorem sh_next (sz:Nat) (ts:List (Tok Val)):Sh (ts.length - 1) (rNext sz ts):=by
 cases ts with
 | nil=>exact Sh.bad _ _ _
 | cons t r=>exact Sh.ok _ (by simp)
theorem sh_beg (sz:Nat) (d:Int) (ts:List (Tok Val)):Sh (ts.length - 1) (rBeg sz d ts):=by
 cases ts with
 | nil=>exact Sh.bad _ _ _
 | cons t r=>
  rw [rBeg]
  split
  ·exact Sh.bad _ _ _
  ·exact Sh.ok _ (by simp)
theorem sh_exp (sz:Nat) (c:List UInt8) (ts:List (Tok Val)):Sh (ts.length - 1) (rExp sz c ts):=by
 cases ts with
 | nil=>exact Sh.bad _ _ _
 | cons t r=>
  rw [rExp]
  split
  ·exact Sh.ok _ (by simp)
  ·exact Sh.bad _ _ _
theorem sh_name (sz:Nat) (ts:List (Tok Val)):Sh (ts.length - 1) (rName sz ts):=by
 cases ts with
 | nil=>exact Sh.bad _ _ _
 | cons t r=>
  rw [rName]
  split
  ·exact Sh.ok _ (by simp)
  ·exact Sh.bad _ _ _
theorem sh_nms (sz:Nat):∀ ts:List (Tok Val),Sh ts.length (rNms sz ts)
 | []=>Sh.bad _ _ _
 | t::r=>by
  unfold rNms
  split
  ·exact Sh.ok _ (Nat.le_refl _)
  ·split
   ·exact (sh_nms sz r).bind fun a r' h=>Sh.ok _ (by simp;omega)
   ·exact Sh.bad _ _ _
theorem sh_list (sz:Nat) (ts:List (Tok Val)):Sh ts.length (rList sz ts):=
 (sh_exp sz _ ts).bind fun _ r h=>(sh_nms sz r).bind fun l r' h'=>(sh_exp sz _ r').bind fun _ r'' h''=>Sh.ok _ (by omega)
theorem sh_many {α:Type} {p:List (Tok Val)→Rd α} (hp:∀ ts,Sh (ts.length - 1) (p ts)) (more:Bool):∀ (n k:Nat) (ts:List (Tok Val)),Sh ts.length (rMany p more n k ts)
 | 0,_,_=>Sh.bad _ _ _
 | n+1,k,ts=>by
  unfold rMany
  split
  ·exact (hp ts).bind fun a r h=>(sh_many hp more n (k - 1) r).bind fun l r' h'=>Sh.ok _ (by omega)
  ·exact Sh.ok _ (Nat.le_refl _)
theorem sh_iv (sz:Nat) (ts:List (Tok Val)):Sh ts.length (rIv sz ts):=by
 cases ts with
 | nil=>exact Sh.bad _ _ _
 | cons t r=>
  rw [rIv]
  split
  ·exact Sh.ok _ (by simp)
  ·exact Sh.bad _ _ _
theorem sh_op (sz:Nat) (ts:List (Tok Val)):Sh ts.length (rOp sz ts):=by
 cases ts with
 | nil=>exact Sh.bad _ _ _
 | cons t r=>
  rw [rOp]
  split
  ·exact Sh.bad _ _ _
  ·exact Sh.ok _ (by simp)
theorem sh_if {α:Type} (b:Bool) (z:α) {p:List (Tok Val)→Rd α} (hp:∀ ts,Sh ts.length (p ts)) (ts:List (Tok Val)):Sh ts.length (rIf b z p ts):=by
 unfold rIf
 split
 ·exact hp ts
 ·exact Sh.ok _ (Nat.le_refl _)
theorem sh_T (sz:Nat):∀ (n:Nat) (d:Int) (ts:List (Tok Val)),Sh (ts.length - 1) (pT sz n d ts)
 | 0,_,_=>Sh.bad _ _ _
 | n+1,d,ts=>by
  unfold pT
  refine (sh_beg sz d ts).bind fun t r h=> ?_
  split
  ·exact Sh.ok _ h
  ·split
   ·exact Sh.ok _ h
   ·split
    ·refine (sh_next sz r).bind fun t' r2 h2=> ?_
     split
     ·exact Sh.bad _ _ _
     ·exact (sh_many (sh_T sz n (d+1)) false n 2 r2).bind fun l r3 h3=>(sh_exp sz _ r3).bind fun _ r4 h4=>Sh.ok _ (by omega)
    ·exact Sh.bad _ _ _
theorem sh_shaped {sz n:Nat} {pt:List (Tok Val)→Rd Tm} {pf:List (Tok Val)→Rd Fm} {pr:List (Tok Val)→Rd Rx} (ht:∀ ts,Sh (ts.length - 1) (pt ts)) (hf:∀ ts,Sh (ts.length - 1) (pf ts)) (hr:∀ ts,Sh (ts.length - 1) (pr ts)) (k:Int) (ts:List (Tok Val)):Sh ts.length (pShaped sz n pt pf pr k ts):=by
 unfold pShaped
 refine (sh_if _ _ (fun r=>(sh_name sz r).mono (by omega)) ts).bind fun _ r1 h1=> ?_
 refine (sh_if _ _ (sh_op sz) r1).bind fun _ r2 h2=> ?_
 refine (sh_if _ _ (fun r=>(sh_name sz r).bind fun x r' h=>Sh.ok _ (by omega)) r2).bind fun _ r3 h3=> ?_
 refine (sh_if _ _ (sh_list sz) r3).bind fun _ r4 h4=> ?_
 refine (sh_if _ _ (sh_iv sz) r4).bind fun _ r5 h5=> ?_
 refine (sh_many ht _ _ _ r5).bind fun _ r6 h6=> ?_
 refine (sh_many hr _ _ _ r6).bind fun _ r7 h7=> ?_
 refine (sh_many hf _ _ _ r7).bind fun _ r8 h8=> ?_
 exact Sh.ok _ (by omega)
theorem sh_head {sz n:Nat} {pt:List (Tok Val)→Rd Tm} {pf:List (Tok Val)→Rd Fm} {pr:List (Tok Val)→Rd Rx} (ht:∀ ts,Sh (ts.length - 1) (pt ts)) (hf:∀ ts,Sh (ts.length - 1) (pf ts)) (hr:∀ ts,Sh (ts.length - 1) (pr ts)) (ts:List (Tok Val)):Sh (ts.length - 1) (pHead sz n pt pf pr ts):=by
 unfold pHead
 refine (sh_next sz ts).bind fun t r h=> ?_
 split
 ·exact (sh_many ht _ _ _ r).bind fun _ r' h'=>Sh.ok _ (by omega)
 ·split
  ·exact Sh.bad _ _ _
  ·exact (sh_shaped ht hf hr _ r).mono h
theorem sh_form {sz n:Nat} {pt:List (Tok Val)→Rd Tm} {pf:List (Tok Val)→Rd Fm} {pr:List (Tok Val)→Rd Rx} (ht:∀ ts,Sh (ts.length - 1) (pt ts)) (hf:∀ ts,Sh (ts.length - 1) (pf ts)) (hr:∀ ts,Sh (ts.length - 1) (pr ts)) (d:Int) (ts:List (Tok Val)):Sh (ts.length - 1) (pForm sz n pt pf pr d ts):=by
 unfold pForm
 refine (sh_beg sz d ts).bind fun t r h=> ?_
 split
 ·exact Sh.ok _ h
 ·split
  ·exact Sh.ok _ h
  ·split
   ·exact (sh_head ht hf hr r).bind fun _ r' h'=>(sh_exp sz _ r').bind fun _ r'' h''=>Sh.ok _ (by omega)
   ·exact Sh.bad _ _ _
theorem sh_headR {sz n:Nat} {pf:List (Tok Val)→Rd Fm} {pr:List (Tok Val)→Rd Rx} (hf:∀ ts,Sh (ts.length - 1) (pf ts)) (hr:∀ ts,Sh (ts.length - 1) (pr ts)) (ts:List (Tok Val)):Sh (ts.length - 1) (pHeadR sz n pf pr ts):=by
 unfold pHeadR
 refine (sh_next sz ts).bind fun t r h=> ?_
 split
 ·exact (sh_many hf _ _ _ r).bind fun _ r' h'=>Sh.ok _ (by omega)
 ·split
  ·exact (sh_many hr _ _ _ r).bind fun _ r' h'=>Sh.ok _ (by omega)
  ·split
   ·exact (sh_many hr _ _ _ r).bind fun _ r' h'=>Sh.ok _ (by omega)
   ·split
    ·exact (sh_many hr _ _ _ r).bind fun _ r' h'=>Sh.ok _ (by omega)
    ·exact Sh.bad _ _ _
theorem sh_regex {sz n:Nat} {pf:List (Tok Val)→Rd Fm} {pr:List (Tok Val)→Rd Rx} (hf:∀ ts,Sh (ts.length - 1) (pf ts)) (hr:∀ ts,Sh (ts.length - 1) (pr ts)) (d:Int) (ts:List (Tok Val)):Sh (ts.length - 1) (pRegex sz n pf pr d ts):=by
 unfold pRegex
 refine (sh_beg sz d ts).bind fun t r h=> ?_
 split
 ·exact Sh.ok _ h
 ·split
  ·exact (sh_headR hf hr r).bind fun _ r' h'=>(sh_exp sz _ r').bind fun _ r'' h''=>Sh.ok _ (by omega)
  ·exact Sh.bad _ _ _
theorem sh_FR (sz:Nat):∀ (n:Nat),(∀ (d:Int) (ts:List (Tok Val)),Sh (ts.length - 1) ((pFR sz n).1 d ts))∧(∀ (d:Int) (ts:List (Tok Val)),Sh (ts.length - 1) ((pFR sz n).2 d ts))
 | 0=>⟨fun _ _=>Sh.bad _ _ _,fun _ _=>Sh.bad _ _ _⟩
 | n+1=>by
  have ih:=sh_FR sz n
  exact ⟨fun d ts=>sh_form (sh_T sz n _) (ih.1 _) (ih.2 _) d ts,fun d ts=>sh_regex (ih.1 _) (ih.2 _) d ts⟩
def jn:List (List UInt8)→List UInt8
 | []=>[]
 | [x]=>x
 | x::y::l=>x++32::jn (y::l)
def brkt (l:List (List UInt8)):List UInt8:=40::(jn l++[41])
def spd:List (List UInt8)→List UInt8
 | []=>[]
 | x::l=>32::(x++spd l)
theorem jn_cons (x:List UInt8):∀ l:List (List UInt8),jn (x::l)=x++spd l
 | []=>by simp [jn,spd]
 | y::l=>by rw [jn,jn_cons y l,spd]
theorem spd_app (a b:List (List UInt8)):spd (a++b)=spd a++spd b:=by
 induction a with
 | nil=>rfl
 | cons x l ih=>simp [spd,ih]
def ivT (lo hi:Int) (o:Bool):List UInt8:=91::(Lib.itoa lo++44::((if o then [42] else Lib.itoa hi)++[93]))
section
mutual
def txT:Tm→List UInt8
 | .mk k nm v subs=>if k=1 then nm.data.toList else if k=2 then vtext v.k v.n v.d v.s else brkt (hdT k::txTs subs)
def txTs:List Tm→List (List UInt8)
 | []=>[]
 | t::l=>txT t::txTs l
end
end
def fmH (f:Fm):List (List UInt8):=
 (if f.k=3 then [] else [hdF f.k])++(if (shp f.k).named then [f.nm.data.toList] else [])++(if (shp f.k).reck then [hdO f.op,(f.vars.headD ⟨#[]⟩).data.toList] else [])++(if (shp f.k).listed then [brkt ((if (shp f.k).reck then f.vars.drop 1 else f.vars).map fun v=>v.data.toList)] else [])++(if (shp f.k).timed then [ivT f.lo f.hi f.opn] else [])
section
mutual
def txF:Fm→List UInt8
 | .mk k nm op vars terms lo hi opn subs rgx=>if k=1 then [116,114,117,101] else if k=2 then [102,97,108,115,101] else brkt (fmH (.mk k nm op vars [] lo hi opn [] [])++txTs terms++txRs rgx++txFs subs)
def txFs:List Fm→List (List UInt8)
 | []=>[]
 | f::l=>txF f::txFs l
def txR:Rx→List UInt8
 | .mk k test subs=>if k=1 then hdR 1 else brkt (hdR k::(txFs test++txRs subs))
def txRs:List Rx→List (List UInt8)
 | []=>[]
 | r::l=>txR r::txRs l
end
end
theorem txT_eq (t:Tm):txT t=if t.k=1 then t.nm.data.toList else if t.k=2 then vtext t.v.k t.v.n t.v.d t.v.s else brkt (hdT t.k::txTs t.subs):=by
 cases t;rw [txT];rfl
theorem txF_eq (f:Fm):txF f=if f.k=1 then [116,114,117,101] else if f.k=2 then [102,97,108,115,101] else brkt (fmH f++txTs f.terms++txRs f.rgx++txFs f.subs):=by
 cases f;rw [txF];rfl
theorem txR_eq (r:Rx):txR r=if r.k=1 then hdR 1 else brkt (hdR r.k::(txFs r.test++txRs r.subs)):=by
 cases r;rw [txR];rfl
theorem txTs_map:∀ l:List Tm,txTs l=l.map txT
 | []=>by rw [txTs];rfl
 | t::l=>by rw [txTs,txTs_map l];rfl
theorem txFs_map:∀ l:List Fm,txFs l=l.map txF
 | []=>by rw [txFs];rfl
 | t::l=>by rw [txFs,txFs_map l];rfl
theorem txRs_map:∀ l:List Rx,txRs l=l.map txR
 | []=>by rw [txRs];rfl
 | t::l=>by rw [txRs,txRs_map l];rfl
end Go.Proofs.YticnfeolbfmgfaaGreatDoor
namespace Go.Proofs.YticnfeolbfmgfaaGreatDoor
open Go.RowKit Go.Shelf
set_option linter.unusedVariables false
structure Fr (P:Nat→Prop) (w w':World):Prop where
 os:w'.os=w.os
 tape:w'.tape=w.tape
 output:w'.output=w.output
 size:w.heap.size≤w'.heap.size
 block:∀ k,k<w.heap.size→¬ P k→w'.heap[k]? =w.heap[k]?
theorem Fr.refl (P:Nat→Prop) (w:World):Fr P w w:=⟨rfl,rfl,rfl,Nat.le_refl _,fun _ _ _=>rfl⟩
theorem Fr.trans {P Q:Nat→Prop} {a b c:World} (h:Fr P a b) (k:Fr Q b c) (hQ:∀ i,Q i→P i∨a.heap.size≤i):Fr P a c:=
 ⟨k.os.trans h.os,k.tape.trans h.tape,k.output.trans h.output,Nat.le_trans h.size k.size,fun i hi hp=>(k.block i (Nat.lt_of_lt_of_le hi h.size) (fun q=>by rcases hQ i q with q | q;exact hp q;omega)).trans (h.block i hi hp)⟩
theorem Fr.drew {P:Nat→Prop} {a b:World} (h:Fr P a b):Fr P a b.drew:=⟨h.os,h.tape,h.output,h.size,h.block⟩
theorem Fr.alloc {P:Nat→Prop} {a b:World} (h:Fr P a b) (o:Obj):Fr P a (b.alloc o):=
 h.trans (Q:=fun _=>False) ⟨rfl,rfl,rfl,by simp,fun k hk _=>Below.heap_alloc _ _ _ hk⟩ (fun _ h=>h.elim)
theorem Fr.setCell {P:Nat→Prop} {a b:World} (h:Fr P a b) {p:Addr} (hp:P p.block∨a.heap.size≤p.block) (u:Value):Fr P a (b.setCell p u):=
 h.trans (Q:=fun k=>k=p.block) ⟨rfl,rfl,rfl,by simp [World.setCell],fun k hk hn=>Below.heap_setCell _ _ _ _ hn⟩ (fun i e=>by subst e;exact hp)
theorem Fr.grown {P:Nat→Prop} {a b c:World} {row:Option Nat} (h:Fr P a b) (hg:b.grownBy c row) (hr:∀ k,row=some k→P k∨a.heap.size≤k):Fr P a c:=
 h.trans (Q:=fun k=>row=some k) ⟨hg.os,hg.tape,hg.output,hg.size,fun k hk hn=>hg.block k hk (fun e=>hn e.symm)⟩ (fun i e=>hr i e)
theorem Fr.of_below {P:Nat→Prop} {a b:World} (h:Below a.heap.size a b):Fr P a b:=⟨h.os,h.tape,h.output,h.size,fun k hk _=>h.block k hk⟩
theorem Fr.below {P:Nat→Prop} {a b:World} {n:Nat} (h:Fr P a b) (hn:n≤a.heap.size) (hp:∀ k,P k→n≤k):Below n a b:=⟨h.os,h.tape,h.output,h.size,fun k hk=>h.block k (by omega) (fun q=>by have:=hp k q;omega)⟩
theorem Fr.row {P:Nat→Prop} {a b:World} (h:Fr P a b) {base e size n:Nat} {v:Value} {xs:List Value} (hr:a.ownsRow base e size v n xs) (hp:∀ k,v.ownBlock=some k→¬ P k):b.ownsRow base e size v n xs:=by
 obtain ⟨h1,h2⟩:=hr
 refine ⟨h1, ?_⟩
 rcases h2 with h2 | ⟨g,cap,cur,hv,hg,hh,r⟩
 ·exact Or.inl h2
 ·exact Or.inr ⟨g,cap,cur,hv,hg,(h.block g (Array.getElem?_eq_some_iff.1 hh).1 (hp g (by rw [hv];rfl))).trans hh,r⟩
theorem Fr.heap {P:Nat→Prop} {a b:World} (h:Fr P a b) {k:Nat} {o:Obj} (hk:a.heap[k]? =some o) (hp:¬ P k):b.heap[k]? =some o:=(h.block k (Array.getElem?_eq_some_iff.1 hk).1 hp).trans hk
theorem lt_heap {a:World} {k:Nat} {o:Obj} (hk:a.heap[k]? =some o):k<a.heap.size:=(Array.getElem?_eq_some_iff.1 hk).1
theorem row_form {w:World} {B e size n:Nat} {v:Value} {xs:List Value} (h:w.ownsRow B e size v n xs):∃ p c,v=.slice p n c:=by
 obtain ⟨-,⟨e,hn⟩ | ⟨g,cap,cur,e, -⟩⟩:=h
 ·exact ⟨none,0,by rw [e,hn]⟩
 ·exact ⟨_,_,e⟩
theorem set_heap {w:World} {b j:Nat} {cs:Array Value} {t:TypeId} {fr:Nat×Nat} (h:w.heap[b]? =some (.cells cs t fr)) (u:Value):(w.setCell ⟨b,j,none⟩ u).heap[b]? =some (.cells (cs.setIfInBounds j u) t fr):=by
 show (w.heap.modify b _)[b]? =_
 rw [Array.getElem?_modify,if_pos rfl,h]
 rfl
theorem step_append_at {P:Program} {ops:Array Oper} {o:Oper} {a:Act} {w:World} {K:Act→World→Prop} {Q:Exit→Act→World→Prop} {E:Prop}
  (hg:o.guard=none) (s x:Operand) (t:TypeId) (ho:o.op=Op.call {callee:=Callee.builtin Builtin.append,args:=#[s,x],argTypes:=#[t,t]})
  (base:Nat) (e:TypeId) (i:TypeInfo) (z:Value) (size bytes:Nat) (ht:P.underlying t=some (.slice e)) (hi:P.info? e=some i) (hz:i.zero=some z) (hsize:i.size=size) (hby:i.bytes=bytes) (hzs:z.cells.size=size) (hsz:0<size)
  (v:Value) (n:Nat) (xs:List Value) (hs:a.eval s=v) (hown:w.ownsRow base e size v n xs)
  (ad:Addr) (m c:Nat) (news:List Value) (hx:a.eval x=.slice (some ad) m c) (hl:news.length=m*size) (hnews:∀ j u,news[j]? =some u→w.cell? (ad.add j)=some u) (h1:∀ u∈news,u.oneCell'=true)
  (h63:n+m≤maxLen) (hbytes:(n+m)*bytes≤140737488355328) (hbase:base≤w.heap.size)
  (h:∀ v' w',w'.ownsRow base e size v' (n+m) (xs++news)→w.grownBy w' v.ownBlock→(v'.ownBlock=v.ownBlock∨v'.ownBlock=some w.heap.size)→K (a.put o.dst v') w'):
  if Region.wanted o (yielded ops a.tmps)=true then Oper.wp P o a w K Q else E:=by
 have hw:Region.wanted o (yielded ops a.tmps)=true:=by simp [Region.wanted,hg]
 rw [if_pos hw]
 obtain ⟨v',w',hr,h2,h3,h4,h5⟩:=run_append_own_at (P:=P) w base t o.type e i z size bytes ht hi hz hsize hby hzs hsz v n xs hown ad m c news hl hnews h1 h63 hbytes hbase
 unfold Oper.wp execOp
 simp only [ho,resolve,invoke,builtin,Sem.run_bind,Sem.run_pure,Result.andThen_ok,List.map_toArray,List.map_cons,List.map_nil,hs,hx,hr]
 exact h v' w' h2 h3 h5
end Go.Proofs.YticnfeolbfmgfaaGreatDoor
namespace Go.Proofs.YticnfeolbfmgfaaGreatDoor
open Go.RowKit LX Go.Shelf
set_option linter.unusedVariables false
def bL (xs:List ByteArray):List (List UInt8):=xs.map fun x=>x.data.toList
theorem new_boxJ (w:World) (o:Obj):(w.alloc o).heap[w.heap.size]? =some o:=by
 show (w.heap.push o)[w.heap.size]? =some o
 simp
def lnS:List ByteArray→Nat
 | []=>0
 | x::l=>x.size+lnS l
theorem lnS_step:∀ (xs:List ByteArray) (k:Nat) (h:k<xs.length),lnS (xs.take (k+1))=lnS (xs.take k)+xs[k].size
 | [],k,h=>by simp at h
 | x::l,0,h=>by simp [lnS]
 | x::l,k+1,h=>by
  have:=lnS_step l k (by simpa using h)
  simp only [List.take_succ_cons,lnS,List.getElem_cons_succ] at this ⊢
  omega
theorem lnS_take:∀ (xs:List ByteArray) (k:Nat),lnS (xs.take k)≤lnS xs
 | [],k=>by simp
 | x::l,0=>by simp [lnS]
 | x::l,k+1=>by
  have:=lnS_take l k
  simp only [List.take_succ_cons,lnS]
  omega
theorem spd_len:∀ r:List ByteArray,(spd (bL r)).length=r.length+lnS r
 | []=>rfl
 | x::l=>by
  have:=spd_len l
  show (32::(x.data.toList++spd (bL l))).length=_
  simp only [List.length_cons,List.length_append,this,lnS]
  have:x.data.toList.length=x.size:=by simp
  omega
theorem jn_len (x:ByteArray) (r:List ByteArray):(jn (bL (x::r))).length=x.size+(r.length+lnS r):=by
 show (jn (x.data.toList::bL r)).length=_
 rw [jn_cons,List.length_append,spd_len]
 have:x.data.toList.length=x.size:=by simp
 omega
theorem spd_step (r:List ByteArray) (k:Nat) (h:k<r.length):spd (bL (r.take (k+1)))=spd (bL (r.take k))++32::r[k].data.toList:=by
 have e:r.take (k+1)=r.take k++[r[k]]:=by rw [List.take_add_one,List.getElem?_eq_getElem h];rfl
 rw [e]
 unfold bL
 rw [List.map_append,spd_app]
 simp [spd]
theorem spd_takeLe (r:List ByteArray) (k:Nat):(spd (bL (r.take k))).length≤(spd (bL r)).length:=by
 rw [spd_len,spd_len]
 have:=lnS_take r k
 have:(r.take k).length≤r.length:=by simp;omega
 omega
theorem bgrow_fresh (B b n:Nat) (w:World) (hB:B≤b) (hbk:w.heap[b]? =some (.cells #[.pointer (some ⟨b,0,none⟩),.slice none 0 0] 153 (0,0))) (hBw:B≤w.heap.size) (hn:n≤281474976710656):
  Calls Tryz.prog 171 #[.pointer (some ⟨b,0,none⟩),.int .i64 n] w fun e w'=>e=.returned (.tuple #[])∧Lib.BuilderAt 153 5 B b (.pointer (some ⟨b,0,none⟩)) [] w'∧Below B w w':=by
 obtain ⟨cs,hrun,hle,hmax⟩:=Lib.run_makeNoZero (P:=Tryz.prog) w.drew #[3] 48 5 Tryz.underlying48 n hn
 have hw:IntKind.i64.wrap (IntKind.i64.wrap 0+(n:Int))=n:=by
  rw [IntKind.wrap_i64,IntKind.wrap_i64]
  omega
 have hcall:(callFunc 201 #[.int .i64 (IntKind.i64.wrap (IntKind.i64.wrap 0+(n:Int)))]).run Tryz.prog w.drew=.ok (.value (.slice (some ⟨w.drew.heap.size,0,none⟩) n cs.size)) (w.drew.drew.drew.alloc (.cells cs 5)):=by
  rw [hw,run_callFunc_extern Tryz.func201 (by kernel_rfl) (by kernel_rfl) (by kernel_rfl) (e:=Extern.BytealgMakeNoZero.makeNoZero #[3] #[48]) (by kernel_rfl),hrun]
  rfl
 have hlt:b<w.heap.size:=lt_heap hbk
 have hbd:w.drew.heap[b]? =some (.cells #[.pointer (some ⟨b,0,none⟩),.slice none 0 0] 153 (0,0)):=hbk
 have c1:w.drew.cell? ⟨b,1,none⟩=some (.slice none 0 0):=by rw [Lib.cell_of_heap hbd];rfl
 have hba:(w.alloc (.cells cs 5)).heap[b]? =some (.cells #[.pointer (some ⟨b,0,none⟩),.slice none 0 0] 153 (0,0)):=(Below.heap_alloc _ _ _ hlt).trans hbk
 have c2:(w.alloc (.cells cs 5)).cell? ⟨b,1,none⟩=some (.slice none 0 0):=by rw [Lib.cell_of_heap hba];rfl
 have f2:(w.alloc (.cells cs 5)).frozen? ⟨b,1,none⟩=false:=Lib.frozen_of_heap hba 1
 obtain ⟨i0,hi,hz0,hz1,hz2⟩:=info_parts inB
 have hsz:(Tryz.prog.info? 5).map (·.size)=some 1:=by rw [hi];simp [hz1]
 have hcopy:∀ W:World,(Builtin.copy_ #[48,48] 3 #[.slice (some ⟨w.heap.size,0,none⟩) 0 cs.size,.slice none 0 0]).run Tryz.prog W=.ok (goInt 0) W:=
  fun W=>run_copy_none W 48 48 3 5 _ _ 0 cs.size 0 0 Tryz.underlying48 hsz rfl
 have hfin:=Lib.grown_fresh (T:=153) (e:=5) (cs:=cs) hB hbk hBw (hmax (by unfold maxLen;omega)) (by decide)
 have HF:Hid (_∧_):=hfin
 clear hw hfin hsz hi hz0 hz1 hz2 hrun hle hmax hbd hba hbk hlt
 go_enter Tryz.func171,Tryz.ntmps171
 go_wp2_with fail
 go_region_calls
 all_goals (go_wp2;go_end0;exact ⟨rfl,HF.out⟩)
theorem bGrow_fresh (B b n:Nat) (w:World) (hB:B≤b) (hbk:w.heap[b]? =some (.cells #[.pointer none,.slice none 0 0] 153 (0,0))) (hBw:B≤w.heap.size) (hn:n≤281474976710656):
  Calls Tryz.prog 128 #[.pointer (some ⟨b,0,none⟩),.int .i64 n] w fun e w'=>e=.returned (.tuple #[])∧Lib.BuilderAt 153 5 B b (.pointer (some ⟨b,0,none⟩)) [] w'∧Below B w w':=by
 have hbk1:(w.setCell ⟨b,0,none⟩ (.pointer (some ⟨b,0,none⟩))).heap[b]? =some (.cells #[.pointer (some ⟨b,0,none⟩),.slice none 0 0] 153 (0,0)):=by
  simp [World.setCell,Array.getElem?_modify,hbk]
 have c1:(w.setCell ⟨b,0,none⟩ (.pointer (some ⟨b,0,none⟩))).cell? ⟨b,1,none⟩=some (.slice none 0 0):=by rw [Lib.cell_of_heap hbk1];rfl
 have hb1:Below B w (w.setCell ⟨b,0,none⟩ (.pointer (some ⟨b,0,none⟩))):=(Below.refl B w).setCell (p:=⟨b,0,none⟩) hB _
 have hU:Lib.BuilderAt 153 5 B b (.pointer (some ⟨b,0,none⟩)) [] (w.setCell ⟨b,0,none⟩ (.pointer (some ⟨b,0,none⟩))):=⟨hB,.slice none 0 0,hbk1,World.ownsRow_nil _ _ _ _,by simp [Value.ownBlock]⟩
 have c1':(w.setCell ⟨b,0,none⟩ (.pointer (some ⟨b,0,none⟩))).drew.cell? ⟨b,1,none⟩=some (.slice none 0 0):=c1
 go_enter Tryz.func128,Tryz.ntmps128
 go_wp2_with (go_at_call 170;refine (ck_fresh b w (by rw [Lib.cell_of_heap hbk];rfl) (by simp [World.shape?,hbk]) (Lib.frozen_of_heap hbk 0)).mono ?_;rintro e w' ⟨rfl,rfl⟩)
 go_region
 all_goals go_wp2_with (go_at_call 171;refine (bgrow_fresh B b n (w.setCell ⟨b,0,none⟩ (.pointer (some ⟨b,0,none⟩))).drew hB hbk1 (by simpa [World.setCell,World.drew, -World.drew_eq] using hBw) hn).mono ?_;rintro e w' ⟨rfl,h1,h2⟩)
 all_goals first
  | (go_end0;exact ⟨rfl,h1,hb1.drew.trans h2⟩)
  | (go_end0;exact ⟨rfl,hU.drew,hb1.drew⟩)
theorem join_many (bk o c:Nat) (xs:List ByteArray) (sep:ByteArray) (w:World) (hc:∀ j (h:j<xs.length),w.cell? ⟨bk,o+j,none⟩=some (.string xs[j])) (hbk:bk<w.heap.size) (h2:2≤xs.length) (hcap:xs.length≤c) (hs1:sep.size=1) (hs2:Hid (sep.data.toList=[32])) (hl:(jn (bL xs)).length≤1099511627776):
  Calls Tryz.prog 80 #[.slice (some ⟨bk,o,none⟩) xs.length c,.string sep] w fun e w'=>e=.returned (.string ⟨(jn (bL xs)).toArray⟩)∧Below w.heap.size w w':=by
 have HC:Hid (∀ j (h:j<xs.length),w.cell? ⟨bk,o+j,none⟩=some (.string xs[j])):=hc
 clear hc
 obtain ⟨x0,r,hxs⟩:∃ x0 r,xs=x0::r:=by
  cases xs with
  | nil=>simp at h2
  | cons a t=>exact ⟨a,t,rfl⟩
 have hL:(xs.length:Int) - 1+lnS xs≤1099511627776:=by
  rw [hxs] at hl ⊢
  rw [jn_len] at hl
  simp only [lnS,List.length_cons] at hl ⊢
  omega
 have hn1:(xs.length:Int)≤1099511627777:=by omega
 have hdv:¬ (9223372036854775807 / ((xs.length:Int) - 1)≤1):=by
  have h3:(2:Int)≤9223372036854775807 / ((xs.length:Int) - 1):=by
   rw [Int.le_ediv_iff_mul_le (by omega)]
   omega
  omega
 have hne0:((xs.length:Int)==0)=false:=beq_eq_false_iff_ne.2 (by omega)
 have hne1:((xs.length:Int)==1)=false:=beq_eq_false_iff_ne.2 (by omega)
 have hw1:IntKind.i64.wrap ((xs.length:Int) - 1)=(xs.length:Int) - 1:=by rw [IntKind.wrap_i64];omega
 have Hxs:Hid (xs=x0::r):=hxs
 have Hl:Hid ((jn (bL xs)).length≤1099511627776):=hl
 clear hxs hl
 go_enter Tryz.func80,Tryz.ntmps80
 go_wp2_with fail
 all_goals (
  go_loop [5,41] (fun n i=>∃ k:Nat,k≤xs.length∧i=.int .i64 k∧n=.int .i64 ((xs.length:Int) - 1+lnS (xs.take k))) (fun _ i=>xs.length - (intOf i).toNat)
  case atStart=>exact ⟨0,Nat.zero_le _,rfl,by simp [lnS]⟩
  case round=>
   obtain ⟨k,hk,rfl,rfl⟩:=hrel
   by_cases hkn:k<xs.length
   ·have hck:=HC.out k hkn
    have hstep:=lnS_step xs k hkn
    have hle:=lnS_take xs (k+1)
    obtain ⟨A1,HA⟩:∃ A1,Hid (lnS (xs.take (k+1))=A1):=⟨_,rfl⟩
    rw [HA.out] at hstep hle
    generalize xs[k]=x at*
    generalize lnS (xs.take k)=A0 at*
    go_wp2
    exact ⟨⟨k+1,by omega,by go_num,by rw [HA.out];refine congrArg _ ?_;omega⟩,by simp [intOf];omega⟩
   ·have hke:k=xs.length:=by omega
    subst hke
    have hall:xs.take xs.length=xs:=List.take_of_length_le (Nat.le_refl _)
    rw [hall]
    generalize lnS xs=TT at*
    go_wp2_with fail
    have hMT:(xs.length:Int) - 1+(TT:Int)=((xs.length - 1+TT:Nat):Int):=by omega
    rw [hMT]
    refine (bGrow_fresh w.heap.size w.heap.size (xs.length - 1+TT) _ (Nat.le_refl _) (new_boxJ w _) (by simp) (by omega)).mono ?_
    rintro e w1 ⟨rfl,h1,hb1⟩
    have hb1':Below w.heap.size w w1:=((Below.refl w.heap.size w).alloc (Nat.le_refl _) _).trans hb1
    have hx0:w1.cell? ⟨bk,o,none⟩=some (.string x0):=by
     rw [hb1'.cell (p:=⟨bk,o,none⟩) hbk]
     have q:=HC.out 0 (by omega)
     rw [Nat.add_zero] at q
     rw [q]
     have h0:xs[0]'(by omega)=x0:=by simp only [Hxs.out,List.getElem_cons_zero]
     rw [h0]
    have H1:Hid (Lib.IsBuilder 153 5 w.heap.size w.heap.size [] w1):=Or.inr h1
    have Hb1:Hid (Below w.heap.size w w1):=hb1'
    have hBw1:w.heap.size≤w1.heap.size:=hb1'.size
    have hrl:r.length=xs.length - 1:=by rw [Hxs.out];simp
    have HW:Hid (jn (bL xs)=x0.data.toList++spd (bL r)):=by
     show _=_
     rw [Hxs.out]
     exact jn_cons _ _
    have HLe:Hid (∀ k,x0.size+(spd (bL (r.take k))).length≤1099511627776):=fun k=>by
     have a1:=Hl.out
     rw [HW.out,List.length_append] at a1
     have a2:=spd_takeLe r k
     have a3:x0.data.toList.length=x0.size:=by simp
     omega
    clear h1 hb1 hb1' hMT hall
    go_wp2_with fail
    refine (wstr w.heap.size w.heap.size [] x0 w1 H1.out (by have:=HLe.out 0;simp;omega) hBw1).mono ?_
    rintro e w2 ⟨rfl,h2',hb2⟩
    have hstart:([]:List Value)++Lib.strCells x0=Lib.byteCells (x0.data.toList++spd (bL (r.take 0))):=by
     simp [Lib.strCells_eq,bL,spd]
    rw [hstart] at h2'
    have H2:Hid (Lib.IsBuilder 153 5 w.heap.size w.heap.size (Lib.byteCells (x0.data.toList++spd (bL (r.take 0)))) w2):=Or.inr h2'
    have Hb2:Hid (Below w.heap.size w w2):=Hb1.out.trans hb2
    clear h2' hb2 hstart hx0 H1 Hb1
    go_wp2_with fail
    go_loopw [65] (fun i wr=>∃ k:Nat,k≤r.length∧i=.int .i64 k∧Hid (Lib.IsBuilder 153 5 w.heap.size w.heap.size (Lib.byteCells (x0.data.toList++spd (bL (r.take k)))) wr)∧Hid (Below w.heap.size w wr)) (fun i _=>r.length - (intOf i).toNat)
    case atStart=>exact ⟨0,Nat.zero_le _,rfl,H2,Hb2⟩
    case round=>
     obtain ⟨k,hk',rfl,HB,HBl⟩:=hrel
     have hBw:w.heap.size≤wr.heap.size:=HBl.out.size
     by_cases hkr:k<r.length
     ·have hkx:k+1<xs.length:=by omega
      have hy:xs[k+1]=r[k]:=by simp only [Hxs.out,List.getElem_cons_succ]
      have hcy:wr.cell? ⟨bk,o+1+k,none⟩=some (.string r[k]):=by
       rw [HBl.out.cell (p:=⟨bk,o+1+k,none⟩) hbk,show o+1+k=o+(k+1) by omega,HC.out (k+1) hkx,hy]
      have hl1:=HLe.out (k+1)
      have hl0:(Lib.byteCells (x0.data.toList++spd (bL (r.take k)))).length=x0.size+(spd (bL (r.take k))).length:=by
       rw [Lib.byteCells_length,List.length_append]
       simp
      have Hn:Hid (Lib.byteCells (x0.data.toList++spd (bL (r.take k)))++Lib.strCells sep++Lib.strCells r[k]=Lib.byteCells (x0.data.toList++spd (bL (r.take (k+1))))):=by
       show _=_
       rw [spd_step r k hkr,Lib.strCells_eq,Lib.strCells_eq,← Lib.byteCells_append,← Lib.byteCells_append,hs2.out]
       simp
      rw [spd_step r k hkr] at hl1
      simp only [List.length_append,List.length_cons] at hl1
      have hyl:r[k].data.toList.length=r[k].size:=by simp
      rw [hyl] at hl1
      clear hy hyl
      generalize r[k]=y at*
      generalize (spd (bL (r.take k))).length=JJ at*
      go_wp2_with fail
      refine (wstr w.heap.size w.heap.size _ sep wr HB.out (by rw [hl0,hs1];omega) hBw).mono ?_
      rintro e w3 ⟨rfl,h3,hb3⟩
      have hBw3:w.heap.size≤w3.heap.size:=Nat.le_trans hBw hb3.size
      have H3:Hid (Lib.BuilderAt 153 5 w.heap.size w.heap.size (.pointer (some ⟨w.heap.size,0,none⟩)) (Lib.byteCells (x0.data.toList++spd (bL (r.take k)))++Lib.strCells sep) w3):=h3
      have Hb3:Hid (Below w.heap.size wr w3):=hb3
      clear h3 hb3
      go_wp2_with fail
      refine (wstr w.heap.size w.heap.size _ y w3 (Or.inr H3.out) (by rw [List.length_append,hl0,Lib.strCells_length,hs1];omega) hBw3).mono ?_
      rintro e w4 ⟨rfl,h4,hb4⟩
      rw [Hn.out] at h4
      have H4:Hid (Lib.IsBuilder 153 5 w.heap.size w.heap.size (Lib.byteCells (x0.data.toList++spd (bL (r.take (k+1))))) w4):=Or.inr h4
      have Hb4:Hid (Below w.heap.size w w4):=(HBl.out.trans Hb3.out).trans hb4
      clear h4 hb4
      go_wp2
      exact ⟨⟨k+1,by omega,by go_num,H4,Hb4⟩,by simp [intOf];omega⟩
     ·have hke:k=r.length:=by omega
      subst hke
      have hB':Lib.IsBuilder 153 5 w.heap.size w.heap.size (Lib.byteCells (jn (bL xs))) wr:=by
       have q:=HB.out
       rw [List.take_of_length_le (Nat.le_refl _),← HW.out] at q
       exact q
      have CS:Hid (Calls Tryz.prog 130 #[.pointer (some ⟨w.heap.size,0,none⟩)] wr fun e w'=>e=.returned (.string ⟨(jn (bL xs)).toArray⟩)∧Below w.heap.size wr w'):=Tryz.Builder_String_any w.heap.size w.heap.size _ wr hB' hBw
      clear hB' HB
      go_wp2_with fail
      refine CS.out.mono ?_
      rintro e w5 ⟨rfl,hb5⟩
      have Hb5:Hid (Below w.heap.size w w5):=HBl.out.trans hb5
      clear hb5 CS
      go_wp2
      go_ret
      exact ⟨rfl,Hb5.out⟩)
theorem join_none (p:Option Addr) (c:Nat) (sep:ByteArray) (w:World):Calls Tryz.prog 80 #[.slice p 0 c,.string sep] w fun e w'=>e=.returned (.string ⟨#[]⟩)∧Below w.heap.size w w':=by
 go_enter Tryz.func80,Tryz.ntmps80
 go_wp2
 go_ret
 exact ⟨rfl,Below.refl _ _⟩
theorem join_one (bk o c:Nat) (x sep:ByteArray) (w:World) (hc:w.cell? ⟨bk,o,none⟩=some (.string x)):Calls Tryz.prog 80 #[.slice (some ⟨bk,o,none⟩) 1 c,.string sep] w fun e w'=>e=.returned (.string x)∧Below w.heap.size w w':=by
 go_enter Tryz.func80,Tryz.ntmps80
 go_wp2
 go_ret
 exact ⟨rfl,Below.refl _ _⟩
theorem join_any (xs:List ByteArray) (V:Value) (w:World) (hV:NmsAt w V xs) (hl:(jn (bL xs)).length≤1099511627776):Calls Tryz.prog 80 #[V,.string ⟨#[32]⟩] w fun e w'=>e=.returned (.string ⟨(jn (bL xs)).toArray⟩)∧Below w.heap.size w w':=by
 obtain ⟨h63,p,c,rfl,hc,h | ⟨b,off,rfl,hb,hcells⟩⟩:=hV
 ·subst h
  exact join_none p c _ w
 match xs,hcells,hc,hl with
 | [],_,_,_=>exact join_none _ c _ w
 | [x],hcells,_,_=>
  have q:=hcells 0 (by simp)
  rw [Nat.add_zero] at q
  refine (join_one b off c x _ w q).mono fun e w' ⟨he,hw⟩=>⟨?_,hw⟩
  rw [he]
  show _=Ending.returned (.string ⟨x.data.toList.toArray⟩)
  cases x
  simp
 | x::y::r,hcells,hc,hl=>exact join_many b off c (x::y::r) _ w hcells hb (by simp) hc rfl (show _=_ from rfl) hl
structure KeepT (T:Nat) (w w':World):Prop where
 os:w'.os=w.os
 tape:w'.tape=w.tape
 output:w'.output=w.output
 size:w.heap.size≤w'.heap.size
 block:∀ k,k<w.heap.size→k≠T→w'.heap[k]? =w.heap[k]?
theorem KeepT.refl (T:Nat) (w:World):KeepT T w w:=⟨rfl,rfl,rfl,Nat.le_refl _,fun _ _ _=>rfl⟩
theorem KeepT.trans {T:Nat} {a b c:World} (h:KeepT T a b) (k:KeepT T b c):KeepT T a c:=⟨k.os.trans h.os,k.tape.trans h.tape,k.output.trans h.output,Nat.le_trans h.size k.size,fun i hi hT=>(k.block i (Nat.lt_of_lt_of_le hi h.size) hT).trans (h.block i hi hT)⟩
theorem KeepT.of {T:Nat} {w w':World} (h:Below w.heap.size w w'):KeepT T w w':=⟨h.os,h.tape,h.output,h.size,fun k hk _=>h.block k hk⟩
theorem KeepT.below {T B:Nat} {w w':World} (h:KeepT T w w') (hB:B≤T) (hT:T≤w.heap.size):Below B w w':=⟨h.os,h.tape,h.output,h.size,fun k hk=>h.block k (by omega) (by omega)⟩
theorem KeepT.cell {T:Nat} {w w':World} (h:KeepT T w w') {p:Addr} (hp:p.block<w.heap.size) (hT:p.block≠T):w'.cell? p=w.cell? p:=World.cell?_of_block (w:=w) (h.block p.block hp hT)
def Tal (T:Nat) (s:Int×Int) (w:World):Prop:=w.heap[T]? =some (.cells #[.int .i64 s.1,.int .i64 s.2,.slice none 0 0] 78 (0,0))
theorem Tal.lt {T:Nat} {s:Int×Int} {w:World} (h:Tal T s w):T<w.heap.size:=(Array.getElem?_eq_some_iff.1 h).1
theorem Tal.alloc {T:Nat} {s:Int×Int} {w:World} (h:Tal T s w) (o:Obj):Tal T s (w.alloc o):=(Below.heap_alloc w o T h.lt).trans h
theorem Tal.below {T:Nat} {s:Int×Int} {w w':World} (h:Tal T s w) (hb:Below w.heap.size w w'):Tal T s w':=(hb.block T h.lt).trans h
theorem set_heapA {W:World} {b o e:Nat} {u:Value} {cur:Array Value} {fz:Nat×Nat} (hb:W.heap[b]? =some (.cells cur e fz)):(W.setCell ⟨b,o,none⟩ u).heap[b]? =some (.cells (cur.setIfInBounds o u) e fz):=by
 show (W.heap.modify b _)[b]? =_
 rw [Array.getElem?_modify,if_pos rfl,hb]
 rfl
theorem tal_set {T:Nat} {s:Int×Int} (x y:Int) {w:World} (h:Tal T s w):KeepT T w ((w.setCell ⟨T,0,none⟩ (.int .i64 x)).setCell ⟨T,1,none⟩ (.int .i64 y))∧Tal T (x,y) ((w.setCell ⟨T,0,none⟩ (.int .i64 x)).setCell ⟨T,1,none⟩ (.int .i64 y)):=by
 refine ⟨⟨rfl,rfl,rfl,by simp [World.setCell],fun k hk hT=> ?_⟩, ?_⟩
 ·exact (Below.heap_setCell _ _ _ _ hT).trans (Below.heap_setCell _ _ _ _ hT)
 ·exact set_heapA (set_heapA h)
def meetE (dep:Int) (s:Int×Int):Int:=if 24<dep then 71 else if s.1=256 then 3 else 0
def meetS (dep:Int) (s:Int×Int):Int×Int:=if meetE dep s=0 then (s.1+1,max s.2 dep) else s
def OkS (s:Int×Int):Prop:=0≤s.1∧s.1≤256∧0≤s.2∧s.2≤24
theorem meetS_ok {dep:Int} {s:Int×Int} (h:OkS s) (hd:0≤dep):OkS (meetS dep s):=by
 unfold meetS
 split
 ·rename_i he
  unfold meetE at he
  by_cases h1:24<dep
  ·rw [if_pos h1] at he;cases he
  rw [if_neg h1] at he
  by_cases h2:s.1=256
  ·rw [if_pos h2] at he;cases he
  obtain ⟨a,b,c,d⟩:=h
  refine ⟨?_, ?_, ?_, ?_⟩
  ·show 0≤s.1+1;omega
  ·show s.1+1≤256;omega
  ·show 0≤max s.2 dep;omega
  ·show max s.2 dep≤24;omega
 ·exact h
theorem meetE_le {dep:Int} {s:Int×Int} (h:meetE dep s=0):dep≤24:=by
 unfold meetE at h
 by_cases h1:24<dep
 ·rw [if_pos h1] at h;cases h
 ·omega
theorem meet_any (T:Nat) (dep:Int) (s:Int×Int) (w:World) (hT:Tal T s w) (hs:OkS s) (hd:0≤dep∧dep≤25):
  Calls Tryz.prog 122 #[.pointer (some ⟨T,0,none⟩),.int .i64 dep] w fun r w'=>r=.returned (.int .i64 (meetE dep s))∧KeepT T w w'∧Tal T (meetS dep s) w':=by
 have HT:Hid (Tal T s w):=hT
 have c0:w.cell? ⟨T,0,none⟩=some (.int .i64 s.1):=by rw [Lib.cell_of_heap hT];rfl
 have c1:w.cell? ⟨T,1,none⟩=some (.int .i64 s.2):=by rw [Lib.cell_of_heap hT];rfl
 have f0:w.frozen? ⟨T,0,none⟩=false:=Lib.frozen_of_heap hT 0
 have f1:w.frozen? ⟨T,1,none⟩=false:=Lib.frozen_of_heap hT 1
 clear hT
 obtain ⟨n,d⟩:=s
 dsimp only at c0 c1
 obtain ⟨s1,s2,s3,s4⟩:=hs
 dsimp only at s1 s2 s3 s4
 by_cases h1:24<dep
 ·have hE:Hid (meetE dep (n,d)=71):=if_pos h1
  have hS:Hid (meetS dep (n,d)=(n,d)):=if_neg (by rw [hE.out];decide)
  rw [hE.out,hS.out]
  go_enter Tryz.func122,Tryz.ntmps122
  go_wp2
  go_ret
  exact ⟨rfl,KeepT.refl _ _,HT.out⟩
 by_cases h2:n=256
 ·subst h2
  have hE:Hid (meetE dep (256,d)=3):=by unfold Hid meetE;rw [if_neg h1,if_pos rfl]
  have hS:Hid (meetS dep (256,d)=(256,d)):=if_neg (by rw [hE.out];decide)
  rw [hE.out,hS.out]
  go_enter Tryz.func122,Tryz.ntmps122
  go_wp2
  go_ret
  exact ⟨rfl,KeepT.refl _ _,HT.out⟩
 have hE:Hid (meetE dep (n,d)=0):=by unfold Hid meetE;rw [if_neg h1,if_neg h2]
 have hS:Hid (meetS dep (n,d)=(n+1,max d dep)):=if_pos hE.out
 rw [hE.out,hS.out]
 have h2':(n==256)=false:=by simp [h2]
 go_enter Tryz.func122,Tryz.ntmps122
 go_wp2
 go_ret
 exact ⟨rfl,tal_set _ _ HT.out⟩
theorem named_any (x:ByteArray) (b:Bool) (w:World):
  Calls Tryz.prog 192 #[.string x,.bool b] w fun r w'=>r=.returned (.bool (if b=true then nameB x else x.toList==[]))∧w'=w:=by
 have cN:Hid (∀ W:World,Calls Tryz.prog 119 #[.string x] W fun e w'=>e=.returned (.bool (nameB x))∧w'=W):=fun W=>name_any x W
 generalize nameB x=N at cN ⊢
 cases b with
 | false=>
  go_enter Tryz.func192,Tryz.ntmps192
  go_wp2
  go_ret
  exact ⟨by first | rfl | simp,rfl⟩
 | true=>
  go_enter Tryz.func192,Tryz.ntmps192
  go_wp2_with fail
  refine (cN.out _).mono ?_
  rintro e w1 ⟨rfl,rfl⟩
  go_wp2
  go_ret
  exact ⟨by first | rfl | simp,rfl⟩
def tmE (t:Tm):Int:=if t.k<1∨5<t.k then 20 else if (if t.k=1 then nameB t.nm else t.nm.toList==[])=false∨t.subs.length≠(if 3≤t.k then 2 else 0) then 1 else if t.k=2 then t.v.may else if sameB t.v.k t.v.n t.v.d t.v.s 0 0 0 ⟨#[]⟩=true then 0 else 1
theorem retI {a b:Int} (h:a=b):Ending.returned (.int .i64 a)=.returned (.int .i64 b):=by rw [h]
theorem cterm_any (t:Tm) (p:Option Addr) (c:Nat) (w:World) (f:t.v.Fits):
  Calls Tryz.prog 164 #[.agg #[.int .i64 t.k,.string t.nm,.int .i64 t.v.k,.int .i64 t.v.n,.int .i64 t.v.d,.string t.v.s,.slice p t.subs.length c]] w fun r w'=>r=.returned (.int .i64 (tmE t))∧Below w.heap.size w w':=by
 have cM:Hid (∀ (b:Bool) (W:World),Calls Tryz.prog 192 #[.string t.nm,.bool b] W fun r w'=>r=.returned (.bool (if b=true then nameB t.nm else t.nm.toList==[]))∧w'=W):=fun b W=>named_any t.nm b W
 have cC:Hid (∀ W:World,Calls Tryz.prog 132 #[.agg #[.int .i64 t.v.k,.int .i64 t.v.n,.int .i64 t.v.d,.string t.v.s]] W fun e w'=>e=.returned (.int .i64 t.v.may)∧Below W.heap.size W w'):=fun W=>check_any t.v.k t.v.n t.v.d t.v.s W f.n1 f.n2 f.d1 f.d2
 have cS:Hid (∀ W:World,Calls Tryz.prog 196 #[.agg #[.int .i64 t.v.k,.int .i64 t.v.n,.int .i64 t.v.d,.string t.v.s],.agg #[.int .i64 0,.int .i64 0,.int .i64 0,.string ⟨#[]⟩]] W fun e w'=>e=.returned (.bool (sameB t.v.k t.v.n t.v.d t.v.s 0 0 0 ⟨#[]⟩))∧Below W.heap.size W w'):=fun W=>vsame_any t.v.k t.v.n t.v.d t.v.s 0 0 0 ⟨#[]⟩ W
 have hE:Hid (tmE t=if t.k<1∨5<t.k then 20 else if (if t.k=1 then nameB t.nm else t.nm.toList==[])=false∨t.subs.length≠(if 3≤t.k then 2 else 0) then 1 else if t.k=2 then t.v.may else if sameB t.v.k t.v.n t.v.d t.v.s 0 0 0 ⟨#[]⟩=true then 0 else 1):=rfl
 generalize tmE t=E at hE ⊢
 generalize t.k=k at*
 generalize t.nm=X at*
 generalize t.v.may=M at*
 generalize sameB t.v.k t.v.n t.v.d t.v.s 0 0 0 ⟨#[]⟩=Z at*
 generalize t.v=v at*
 obtain ⟨vk,vn,vd,vs⟩:=v
 dsimp only at cC cS ⊢
 generalize t.subs.length=n at*
 clear f
 by_cases hk:k<1∨5<k
 ·have hE2:Hid (E=20):=by have h:=hE.out;rwa [if_pos hk] at h
  have k1:(k==1)=false:=by simp;omega
  have k2:(k==2)=false:=by simp;omega
  have k3:(k==3)=false:=by simp;omega
  have k4:(k==4)=false:=by simp;omega
  have k5:(k==5)=false:=by simp;omega
  go_enter Tryz.func164,Tryz.ntmps164
  go_wp2
  go_ret
  exact ⟨retI hE2.out.symm,by go_grown⟩
 have hE1:Hid (E=if (if k=1 then nameB X else X.toList==[])=false∨n≠(if 3≤k then 2 else 0) then 1 else if k=2 then M else if Z=true then 0 else 1):=by have h:=hE.out;rwa [if_neg hk] at h
 clear hE
 have hkk:k=1∨k=2∨k=3∨k=4∨k=5:=by omega
 clear hk
 rcases hkk with rfl | rfl | rfl | rfl | rfl
 ·have cM1:Hid (∀ W:World,Calls Tryz.prog 192 #[.string X,.bool true] W fun r w'=>r=.returned (.bool (nameB X))∧w'=W):=fun W=>cM.out true W
  have hE2:Hid (E=if (nameB X)=false∨n≠0 then 1 else if Z=true then 0 else 1):=by have h:=hE1.out;unfold Hid;simpa using h
  generalize (nameB X)=NB at cM1 hE2
  clear hE1 cM
  cases NB with
  | false=>
   have hE3:Hid (E=1):=by have h:=hE2.out;rwa [if_pos (Or.inl rfl)] at h
   go_enter Tryz.func164,Tryz.ntmps164
   go_wp2_with fail
   refine (cM1.out _).mono ?_
   rintro r w1 ⟨rfl,rfl⟩
   go_wp2
   go_ret
   exact ⟨retI hE3.out.symm,by go_grown⟩
  | true=>
  by_cases hn:n=0
  case neg=>
   have hE3:Hid (E=1):=by have h:=hE2.out;rwa [if_pos (Or.inr hn)] at h
   have hn':((n:Int) != 0)=true:=by simp;omega
   have hn'':¬ (n:Int)=0:=by omega
   go_enter Tryz.func164,Tryz.ntmps164
   go_wp2_with fail
   refine (cM1.out _).mono ?_
   rintro r w1 ⟨rfl,rfl⟩
   go_wp2
   go_ret
   exact ⟨retI hE3.out.symm,by go_grown⟩
  subst hn
  have hE3:Hid (E=if Z=true then 0 else 1):=by have h:=hE2.out;rwa [if_neg (by simp)] at h
  clear hE2
  go_enter Tryz.func164,Tryz.ntmps164
  go_wp2_with fail
  refine (cM1.out _).mono ?_
  rintro r w1 ⟨rfl,rfl⟩
  go_wp2_with fail
  refine (cS.out _).mono ?_
  rintro r w2 ⟨rfl,hb2⟩
  obtain ⟨hB2, -⟩:=bgX (n:=w.heap.size) (W0:=w) (by go_grown) (by go_size) hb2
  cases Z with
  | true=>
   go_wp2
   go_ret
   exact ⟨retI hE3.out.symm,hB2⟩
  | false=>
   go_wp2
   go_ret
   exact ⟨retI hE3.out.symm,hB2⟩
 ·have cM1:Hid (∀ W:World,Calls Tryz.prog 192 #[.string X,.bool false] W fun r w'=>r=.returned (.bool (X.toList==[]))∧w'=W):=fun W=>cM.out false W
  have hE2:Hid (E=if (X.toList==[])=false∨n≠0 then 1 else M):=by have h:=hE1.out;unfold Hid;simpa using h
  generalize (X.toList==[])=NB at cM1 hE2
  clear hE1 cM
  cases NB with
  | false=>
   have hE3:Hid (E=1):=by have h:=hE2.out;rwa [if_pos (Or.inl rfl)] at h
   go_enter Tryz.func164,Tryz.ntmps164
   go_wp2_with fail
   refine (cM1.out _).mono ?_
   rintro r w1 ⟨rfl,rfl⟩
   go_wp2
   go_ret
   exact ⟨retI hE3.out.symm,by go_grown⟩
  | true=>
  by_cases hn:n=0
  case neg=>
   have hE3:Hid (E=1):=by have h:=hE2.out;rwa [if_pos (Or.inr hn)] at h
   have hn':((n:Int) != 0)=true:=by simp;omega
   have hn'':¬ (n:Int)=0:=by omega
   go_enter Tryz.func164,Tryz.ntmps164
   go_wp2_with fail
   refine (cM1.out _).mono ?_
   rintro r w1 ⟨rfl,rfl⟩
   go_wp2
   go_ret
   exact ⟨retI hE3.out.symm,by go_grown⟩
  subst hn
  have hE3:Hid (E=M):=by have h:=hE2.out;rwa [if_neg (by simp)] at h
  clear hE2
  go_enter Tryz.func164,Tryz.ntmps164
  go_wp2_with fail
  refine (cM1.out _).mono ?_
  rintro r w1 ⟨rfl,rfl⟩
  go_wp2_with fail
  refine (cC.out _).mono ?_
  rintro r w2 ⟨rfl,hb2⟩
  obtain ⟨hB2, -⟩:=bgX (n:=w.heap.size) (W0:=w) (by go_grown) (by go_size) hb2
  go_wp2
  go_ret
  exact ⟨retI hE3.out.symm,hB2⟩
 ·have cM1:Hid (∀ W:World,Calls Tryz.prog 192 #[.string X,.bool false] W fun r w'=>r=.returned (.bool (X.toList==[]))∧w'=W):=fun W=>cM.out false W
  have hE2:Hid (E=if (X.toList==[])=false∨n≠2 then 1 else if Z=true then 0 else 1):=by have h:=hE1.out;unfold Hid;simpa using h
  generalize (X.toList==[])=NB at cM1 hE2
  clear hE1 cM
  cases NB with
  | false=>
   have hE3:Hid (E=1):=by have h:=hE2.out;rwa [if_pos (Or.inl rfl)] at h
   go_enter Tryz.func164,Tryz.ntmps164
   go_wp2_with fail
   refine (cM1.out _).mono ?_
   rintro r w1 ⟨rfl,rfl⟩
   go_wp2
   go_ret
   exact ⟨retI hE3.out.symm,by go_grown⟩
  | true=>
  by_cases hn:n=2
  case neg=>
   have hE3:Hid (E=1):=by have h:=hE2.out;rwa [if_pos (Or.inr hn)] at h
   have hn':((n:Int) != 2)=true:=by simp;omega
   have hn'':¬ (n:Int)=2:=by omega
   go_enter Tryz.func164,Tryz.ntmps164
   go_wp2_with fail
   refine (cM1.out _).mono ?_
   rintro r w1 ⟨rfl,rfl⟩
   go_wp2
   go_ret
   exact ⟨retI hE3.out.symm,by go_grown⟩
  subst hn
  have hE3:Hid (E=if Z=true then 0 else 1):=by have h:=hE2.out;rwa [if_neg (by simp)] at h
  clear hE2
  go_enter Tryz.func164,Tryz.ntmps164
  go_wp2_with fail
  refine (cM1.out _).mono ?_
  rintro r w1 ⟨rfl,rfl⟩
  go_wp2_with fail
  refine (cS.out _).mono ?_
  rintro r w2 ⟨rfl,hb2⟩
  obtain ⟨hB2, -⟩:=bgX (n:=w.heap.size) (W0:=w) (by go_grown) (by go_size) hb2
  cases Z with
  | true=>
   go_wp2
   go_ret
   exact ⟨retI hE3.out.symm,hB2⟩
  | false=>
   go_wp2
   go_ret
   exact ⟨retI hE3.out.symm,hB2⟩
 ·have cM1:Hid (∀ W:World,Calls Tryz.prog 192 #[.string X,.bool false] W fun r w'=>r=.returned (.bool (X.toList==[]))∧w'=W):=fun W=>cM.out false W
  have hE2:Hid (E=if (X.toList==[])=false∨n≠2 then 1 else if Z=true then 0 else 1):=by have h:=hE1.out;unfold Hid;simpa using h
  generalize (X.toList==[])=NB at cM1 hE2
  clear hE1 cM
  cases NB with
  | false=>
   have hE3:Hid (E=1):=by have h:=hE2.out;rwa [if_pos (Or.inl rfl)] at h
   go_enter Tryz.func164,Tryz.ntmps164
   go_wp2_with fail
   refine (cM1.out _).mono ?_
   rintro r w1 ⟨rfl,rfl⟩
   go_wp2
   go_ret
   exact ⟨retI hE3.out.symm,by go_grown⟩
  | true=>
  by_cases hn:n=2
  case neg=>
   have hE3:Hid (E=1):=by have h:=hE2.out;rwa [if_pos (Or.inr hn)] at h
   have hn':((n:Int) != 2)=true:=by simp;omega
   have hn'':¬ (n:Int)=2:=by omega
   go_enter Tryz.func164,Tryz.ntmps164
   go_wp2_with fail
   refine (cM1.out _).mono ?_
   rintro r w1 ⟨rfl,rfl⟩
   go_wp2
   go_ret
   exact ⟨retI hE3.out.symm,by go_grown⟩
  subst hn
  have hE3:Hid (E=if Z=true then 0 else 1):=by have h:=hE2.out;rwa [if_neg (by simp)] at h
  clear hE2
  go_enter Tryz.func164,Tryz.ntmps164
  go_wp2_with fail
  refine (cM1.out _).mono ?_
  rintro r w1 ⟨rfl,rfl⟩
  go_wp2_with fail
  refine (cS.out _).mono ?_
  rintro r w2 ⟨rfl,hb2⟩
  obtain ⟨hB2, -⟩:=bgX (n:=w.heap.size) (W0:=w) (by go_grown) (by go_size) hb2
  cases Z with
  | true=>
   go_wp2
   go_ret
   exact ⟨retI hE3.out.symm,hB2⟩
  | false=>
   go_wp2
   go_ret
   exact ⟨retI hE3.out.symm,hB2⟩
 ·have cM1:Hid (∀ W:World,Calls Tryz.prog 192 #[.string X,.bool false] W fun r w'=>r=.returned (.bool (X.toList==[]))∧w'=W):=fun W=>cM.out false W
  have hE2:Hid (E=if (X.toList==[])=false∨n≠2 then 1 else if Z=true then 0 else 1):=by have h:=hE1.out;unfold Hid;simpa using h
  generalize (X.toList==[])=NB at cM1 hE2
  clear hE1 cM
  cases NB with
  | false=>
   have hE3:Hid (E=1):=by have h:=hE2.out;rwa [if_pos (Or.inl rfl)] at h
   go_enter Tryz.func164,Tryz.ntmps164
   go_wp2_with fail
   refine (cM1.out _).mono ?_
   rintro r w1 ⟨rfl,rfl⟩
   go_wp2
   go_ret
   exact ⟨retI hE3.out.symm,by go_grown⟩
  | true=>
  by_cases hn:n=2
  case neg=>
   have hE3:Hid (E=1):=by have h:=hE2.out;rwa [if_pos (Or.inr hn)] at h
   have hn':((n:Int) != 2)=true:=by simp;omega
   have hn'':¬ (n:Int)=2:=by omega
   go_enter Tryz.func164,Tryz.ntmps164
   go_wp2_with fail
   refine (cM1.out _).mono ?_
   rintro r w1 ⟨rfl,rfl⟩
   go_wp2
   go_ret
   exact ⟨retI hE3.out.symm,by go_grown⟩
  subst hn
  have hE3:Hid (E=if Z=true then 0 else 1):=by have h:=hE2.out;rwa [if_neg (by simp)] at h
  clear hE2
  go_enter Tryz.func164,Tryz.ntmps164
  go_wp2_with fail
  refine (cM1.out _).mono ?_
  rintro r w1 ⟨rfl,rfl⟩
  go_wp2_with fail
  refine (cS.out _).mono ?_
  rintro r w2 ⟨rfl,hb2⟩
  obtain ⟨hB2, -⟩:=bgX (n:=w.heap.size) (W0:=w) (by go_grown) (by go_size) hb2
  cases Z with
  | true=>
   go_wp2
   go_ret
   exact ⟨retI hE3.out.symm,hB2⟩
  | false=>
   go_wp2
   go_ret
   exact ⟨retI hE3.out.symm,hB2⟩
section
mutual
def trun (dep:Int) (s:Int×Int):Tm→Int×(Int×Int)
 | .mk k nm v subs=>if meetE dep s=0 then (if tmE (.mk k nm v subs)=0 then truns (dep+1) (meetS dep s) subs else (tmE (.mk k nm v subs),meetS dep s)) else (meetE dep s,s)
def truns (dep:Int) (s:Int×Int):List Tm→Int×(Int×Int)
 | []=>(0,s)
 | t::l=>if (trun dep s t).1=0 then truns dep (trun dep s t).2 l else trun dep s t
end
end
theorem trun_eq (dep:Int) (s:Int×Int) (t:Tm):trun dep s t=if meetE dep s=0 then (if tmE t=0 then truns (dep+1) (meetS dep s) t.subs else (tmE t,meetS dep s)) else (meetE dep s,s):=by
 cases t
 rw [trun]
 rfl
theorem truns_cons (dep:Int) (s:Int×Int) (t:Tm) (l:List Tm):truns dep s (t::l)=if (trun dep s t).1=0 then truns dep (trun dep s t).2 l else trun dep s t:=by rw [truns]
theorem truns_nil (dep:Int) (s:Int×Int):truns dep s []=(0,s):=by rw [truns]
theorem truns_ok:∀ (m:Nat) (ts:List Tm) (dep:Int) (s:Int×Int),SizeOf.sizeOf ts≤m→OkS s→0≤dep→OkS (truns dep s ts).2:=by
 intro m
 induction m with
 | zero=>intro ts dep s hm;cases ts<;>simp at hm
 | succ m ih=>
  intro ts dep s hm hs hd
  cases ts with
  | nil=>rw [truns_nil];exact hs
  | cons t l=>
   simp only [List.cons.sizeOf_spec] at hm
   have ht:OkS (trun dep s t).2:=by
    rw [trun_eq]
    by_cases h1:meetE dep s=0
    ·rw [if_pos h1]
     by_cases h2:tmE t=0
     ·rw [if_pos h2];exact ih _ _ _ (by have:=t.subs_lt;omega) (meetS_ok hs hd) (by omega)
     ·rw [if_neg h2];exact meetS_ok hs hd
    ·rw [if_neg h1];exact hs
   rw [truns_cons]
   split
   ·exact ih _ _ _ (by omega) ht hd
   ·exact ht
theorem terms_any (w0:World) (T:Nat) (hT0:w0.heap.size≤T):∀ (m:Nat) (ts:List Tm) (V:Value) (dep:Int) (s:Int×Int) (w:World),SizeOf.sizeOf ts≤m→TmsAt w0 V ts→Below w0.heap.size w0 w→Tal T s w→OkS s→0≤dep→dep≤25→
  Calls Tryz.prog 124 #[.pointer (some ⟨T,0,none⟩),.int .i64 dep,V] w fun r w'=>r=.returned (.int .i64 (truns dep s ts).1)∧KeepT T w w'∧Tal T (truns dep s ts).2 w':=by
 intro m
 induction m with
 | zero=>intro ts V dep s w hm;cases ts<;>simp at hm
 | succ m ih=>
  intro ts V dep s w hm hV hw hT hs hd0 hd1
  obtain ⟨p,c,rfl,hl,hc,HX0⟩:=hV.form
  have HX:Hid (∀ i (hi:i<ts.length),∃ b off u,p=some ⟨b,off,none⟩∧b<w0.heap.size∧TmC w0 b (off+i*7) ts[i] u∧TmsAt w0 u ts[i].subs∧ts[i].v.Fits):=HX0
  have IH:Hid (∀ (ts:List Tm) (V:Value) (dep:Int) (s:Int×Int) (w:World),SizeOf.sizeOf ts≤m→TmsAt w0 V ts→Below w0.heap.size w0 w→Tal T s w→OkS s→0≤dep→dep≤25→Calls Tryz.prog 124 #[.pointer (some ⟨T,0,none⟩),.int .i64 dep,V] w fun r w'=>r=.returned (.int .i64 (truns dep s ts).1)∧KeepT T w w'∧Tal T (truns dep s ts).2 w'):=ih
  have HT:Hid (Tal T s w):=hT
  have HS:Hid (OkS s):=hs
  have hTw:T<w.heap.size:=hT.lt
  have HM:Hid (SizeOf.sizeOf ts≤m+1):=hm
  clear hV HX0 ih hT hs hm
  obtain ⟨R,eR⟩:∃ R:Int×(Int×Int),Hid (truns dep s ts=R):=⟨_,rfl⟩
  rw [eR.out]
  obtain ⟨n,en⟩:∃ n:Nat,Hid (ts.length=n):=⟨_,rfl⟩
  rw [en.out] at hl hc ⊢
  go_enter Tryz.func124,Tryz.ntmps124
  go_wp2
  go_loopw [12] (fun v wr=>∃ (k:Nat) (q:Int×Int),k≤n∧v=.int .i64 k∧Hid (R=truns dep q (ts.drop k))∧KeepT T w wr∧Hid (Tal T q wr)∧Hid (OkS q)) (fun v _=>n - (intOf v).toNat)
  case atStart=>exact ⟨0,s,Nat.zero_le _,rfl,by rw [List.drop_zero];exact eR.out.symm,KeepT.refl _ _,HT,HS⟩
  case round=>
   obtain ⟨k,q,hk,rfl,hr,hK,hT,hs⟩:=hrel
   by_cases hlt:k<n
   case neg=>
    have c2:¬ (k:Int)<n:=by omega
    have hr2:Hid (R=(0,q)):=by
     have h:=hr.out
     rw [List.drop_eq_nil_of_le (by have:=en.out;omega),truns_nil] at h
     exact h
    go_wp2
    go_ret
    rw [hr2.out]
    exact ⟨rfl,hK,hT.out⟩
   have hlt':(k:Int)<n:=by omega
   have kx:k<ts.length:=by have:=en.out;omega
   obtain ⟨b,off,u,rfl,hb,TC,TS,TF⟩:=HX.out k kx
   have hTr:T<wr.heap.size:=Nat.lt_of_lt_of_le hTw hK.size
   have hBr:Below w0.heap.size w0 wr:=hw.trans ((hK.below (B:=w0.heap.size) hT0 (Nat.le_of_lt hTw)))
   obtain ⟨a0,a1,a2,a3,a4,a5,a6⟩:=TC.below hBr hb
   have hr2:Hid (R=if (trun dep q ts[k]).1=0 then truns dep (trun dep q ts[k]).2 (ts.drop (k+1)) else trun dep q ts[k]):=by
    have h:=hr.out
    rw [List.drop_eq_getElem_cons kx,truns_cons] at h
    exact h
   have hsz:Hid (SizeOf.sizeOf ts[k].subs≤m):=by
    have h1:=mem_lt k kx
    have h2:=ts[k].subs_lt
    have h3:=HM.out
    unfold Hid
    omega
   have hte:=trun_eq dep q ts[k]
   clear TC hr
   generalize ts[k]=t at*
   obtain ⟨pu,cu,rfl, -⟩:=TS.form
   have cM:Hid (∀ W:World,Tal T q W→Calls Tryz.prog 122 #[.pointer (some ⟨T,0,none⟩),.int .i64 dep] W fun r w'=>r=.returned (.int .i64 (meetE dep q))∧KeepT T W w'∧Tal T (meetS dep q) w'):=fun W hW=>meet_any T dep q W hW hs.out ⟨hd0,hd1⟩
   have cC:Hid (∀ W:World,Calls Tryz.prog 164 #[.agg #[.int .i64 t.k,.string t.nm,.int .i64 t.v.k,.int .i64 t.v.n,.int .i64 t.v.d,.string t.v.s,.slice pu t.subs.length cu]] W fun r w'=>r=.returned (.int .i64 (tmE t))∧Below W.heap.size W w'):=fun W=>cterm_any t pu cu W TF
   have cR:Hid (∀ W:World,Below w0.heap.size w0 W→Tal T (meetS dep q) W→meetE dep q=0→Calls Tryz.prog 124 #[.pointer (some ⟨T,0,none⟩),.int .i64 (dep+1),.slice pu t.subs.length cu] W fun r w'=>r=.returned (.int .i64 (truns (dep+1) (meetS dep q) t.subs).1)∧KeepT T W w'∧Tal T (truns (dep+1) (meetS dep q) t.subs).2 w'):=fun W h1 h2 h3=>IH.out t.subs _ (dep+1) (meetS dep q) W hsz.out TS h1 h2 (meetS_ok hs.out hd0) (by omega) (by have:=meetE_le h3;omega)
   have HO2:Hid (OkS (truns (dep+1) (meetS dep q) t.subs).2):=truns_ok m t.subs (dep+1) (meetS dep q) hsz.out (meetS_ok hs.out hd0) (by omega)
   clear TS TF hsz
   have HTE:Hid (trun dep q t=if meetE dep q=0 then (if tmE t=0 then truns (dep+1) (meetS dep q) t.subs else (tmE t,meetS dep q)) else (meetE dep q,q)):=hte
   have HMS:Hid (¬ meetE dep q=0→meetS dep q=q):=fun h=>if_neg h
   clear hte
   generalize trun dep q t=TR at*
   generalize truns (dep+1) (meetS dep q) t.subs=TS at*
   generalize meetS dep q=Q1 at*
   generalize meetE dep q=E1 at*
   generalize tmE t=E2 at*
   generalize t.subs.length=nu at*
   generalize t.v.k=vk at*
   generalize t.v.n=vn at*
   generalize t.v.d=vd at*
   generalize t.v.s=vs at*
   generalize t.k=tk at*
   generalize t.nm=nm at*
   have hTne:wr.heap.size≠T:=by omega
   go_wp2_with fail
   refine (cM.out _ (Tal.alloc hT.out _)).mono ?_
   rintro r w2 ⟨rfl,hk2,ht2⟩
   have e0:w2.cell? ⟨wr.heap.size,0,none⟩=some (.int .i64 tk):=(hk2.cell (p:=⟨wr.heap.size,0,none⟩) (by simp) hTne).trans (by simp [go_sem])
   have e1:w2.cell? ⟨wr.heap.size,1,none⟩=some (.string nm):=(hk2.cell (p:=⟨wr.heap.size,1,none⟩) (by simp) hTne).trans (by simp [go_sem])
   have e2:w2.cell? ⟨wr.heap.size,2,none⟩=some (.int .i64 vk):=(hk2.cell (p:=⟨wr.heap.size,2,none⟩) (by simp) hTne).trans (by simp [go_sem])
   have e3:w2.cell? ⟨wr.heap.size,3,none⟩=some (.int .i64 vn):=(hk2.cell (p:=⟨wr.heap.size,3,none⟩) (by simp) hTne).trans (by simp [go_sem])
   have e4:w2.cell? ⟨wr.heap.size,4,none⟩=some (.int .i64 vd):=(hk2.cell (p:=⟨wr.heap.size,4,none⟩) (by simp) hTne).trans (by simp [go_sem])
   have e5:w2.cell? ⟨wr.heap.size,5,none⟩=some (.string vs):=(hk2.cell (p:=⟨wr.heap.size,5,none⟩) (by simp) hTne).trans (by simp [go_sem])
   have e6:w2.cell? ⟨wr.heap.size,6,none⟩=some (.slice pu nu cu):=(hk2.cell (p:=⟨wr.heap.size,6,none⟩) (by simp) hTne).trans (by simp [go_sem])
   have hK2:KeepT T w w2:=hK.trans ((KeepT.of ((Below.refl _ _).alloc (Nat.le_refl _) _)).trans hk2)
   have hz2:wr.heap.size<w2.heap.size:=by have:=hk2.size;simp at this;omega
   have HT2:Hid (Tal T Q1 w2):=ht2
   clear hk2 ht2 a0 a1 a2 a3 a4 a5 a6 cM
   by_cases hE1:E1=0
   case neg=>
    have hE1':(E1==0)=false:=by simp [hE1]
    have hE1'':(E1 != 0)=true:=by simp [hE1]
    have hE1''':¬ E1=0:=hE1
    have hR:Hid (R=(E1,q)):=by
     have h:=hr2.out
     have h2:=HTE.out
     rw [if_neg hE1] at h2
     rw [h2,if_neg hE1] at h
     exact h
    have hQ:=HMS.out hE1
    subst hQ
    go_wp2
    go_ret
    rw [hR.out]
    exact ⟨rfl,hK2,HT2.out⟩
   have HTE2:Hid (TR=if E2=0 then TS else (E2,Q1)):=by have h:=HTE.out;rwa [if_pos hE1] at h
   have cR2:Hid (∀ W:World,Below w0.heap.size w0 W→Tal T Q1 W→Calls Tryz.prog 124 #[.pointer (some ⟨T,0,none⟩),.int .i64 (dep+1),.slice pu nu cu] W fun r w'=>r=.returned (.int .i64 TS.1)∧KeepT T W w'∧Tal T TS.2 w'):=fun W a b=>cR.out W a b hE1
   clear HTE cR HMS
   subst hE1
   have hB2:Below w0.heap.size w0 w2:=hw.trans (hK2.below hT0 (Nat.le_of_lt hTw))
   go_wp2_with fail
   refine (cC.out _).mono ?_
   rintro r w3 ⟨rfl,hb3⟩
   have g6:=(hb3.cell (p:=⟨wr.heap.size,6,none⟩) hz2).trans e6
   have hK3:KeepT T w w3:=hK2.trans (KeepT.of hb3)
   have HT3:Hid (Tal T Q1 w3):=HT2.out.below hb3
   have hB3:Below w0.heap.size w0 w3:=hw.trans (hK3.below hT0 (Nat.le_of_lt hTw))
   clear cC e0 e1 e2 e3 e4 e5 e6 hb3 HT2 hB2
   by_cases hE2:E2=0
   case neg=>
    have hE2':(E2==0)=false:=by simp [hE2]
    have hE2'':(E2 != 0)=true:=by simp [hE2]
    have hE2''':¬ E2=0:=hE2
    have hR:Hid (R=(E2,Q1)):=by
     have h:=hr2.out
     have h2:=HTE2.out
     rw [if_neg hE2] at h2
     rw [h2,if_neg hE2] at h
     exact h
    go_wp2
    go_ret
    rw [hR.out]
    exact ⟨rfl,hK3,HT3.out⟩
   have hTR:Hid (TR=TS):=by have h2:=HTE2.out;rwa [if_pos hE2] at h2
   subst hE2
   have ctR:=cR2.out w3 hB3 HT3.out
   clear cR2 HTE2
   obtain ⟨E3,Q3⟩:=TS
   dsimp only at ctR HO2
   have CTR:Hid (Calls Tryz.prog 124 #[.pointer (some ⟨T,0,none⟩),.int .i64 (dep+1),.slice pu nu cu] w3 fun r w'=>r=.returned (.int .i64 E3)∧KeepT T w3 w'∧Tal T Q3 w'):=ctR
   clear ctR
   go_wp2_with fail
   refine CTR.out.mono ?_
   rintro r w4 ⟨rfl,hk4,ht4⟩
   have hK4:KeepT T w w4:=hK3.trans hk4
   have HT4:Hid (Tal T Q3 w4):=ht4
   clear CTR hk4 ht4 g6
   by_cases hE3:E3=0
   case neg=>
    have hE3'':(E3 != 0)=true:=by simp [hE3]
    have hE3''':¬ E3=0:=hE3
    have hR:Hid (R=(E3,Q3)):=by
     have h:=hr2.out
     rw [hTR.out,if_neg hE3] at h
     exact h
    go_wp2
    go_ret
    rw [hR.out]
    exact ⟨rfl,hK4,HT4.out⟩
   have hR:Hid (R=truns dep Q3 (ts.drop (k+1))):=by
    have h:=hr2.out
    rw [hTR.out,if_pos hE3] at h
    exact h
   clear hTR hr2
   subst hE3
   go_wp2
   exact ⟨⟨k+1,Q3,by omega,by go_num,hR,hK4,HT4,HO2⟩,by simp [intOf];omega⟩
def opB (op:Int) (used:Bool):Bool:=if used=true then decide (1≤op∧op≤6) else op==0
theorem isop_any (op:Int) (b:Bool) (w:World):
  Calls Tryz.prog 193 #[.int .i64 op,.bool b] w fun r w'=>r=.returned (.bool (opB op b))∧w'=w:=by
 cases b with
 | false=>
  have e:opB op false=(op==0):=rfl
  rw [e]
  go_enter Tryz.func193,Tryz.ntmps193
  go_wp2
  go_ret
  exact ⟨by first | rfl | simp,rfl⟩
 | true=>
  have e:opB op true=decide (1≤op∧op≤6):=rfl
  rw [e]
  by_cases h1:1≤op
  ·by_cases h2:op≤6
   ·rw [decide_eq_true (show 1≤op∧op≤6 from ⟨h1,h2⟩)]
    go_enter Tryz.func193,Tryz.ntmps193
    go_wp2
    go_ret
    exact ⟨by first | rfl | simp,rfl⟩
   ·rw [decide_eq_false (show ¬ (1≤op∧op≤6) from fun h=>h2 h.2)]
    go_enter Tryz.func193,Tryz.ntmps193
    go_wp2
    go_ret
    exact ⟨by first | rfl | simp,rfl⟩
  ·rw [decide_eq_false (show ¬ (1≤op∧op≤6) from fun h=>h1 h.1)]
   go_enter Tryz.func193,Tryz.ntmps193
   go_wp2
   go_ret
   exact ⟨by first | rfl | simp,rfl⟩
def itvU (lo hi:Int) (o:Bool):Bool:=if lo<0∨1099511627776<lo then false else if o=true then hi==0 else decide (lo≤hi∧hi≤1099511627776)
def itvZ (lo hi:Int) (o:Bool):Bool:=lo==0 && (hi==0 && o==false)
def itvB (lo hi:Int) (o:Bool) (used:Bool):Bool:=if used=true then itvU lo hi o else itvZ lo hi o
theorem isiv_any (lo hi:Int) (o b:Bool) (w:World):
  Calls Tryz.prog 194 #[.agg #[.int .i64 lo,.int .i64 hi,.bool o],.bool b] w fun r w'=>r=.returned (.bool (itvB lo hi o b))∧Below w.heap.size w w':=by
 cases b with
 | false=>
  have e:itvB lo hi o false=(lo==0 && (hi==0 && o==false)):=rfl
  rw [e]
  by_cases h1:lo=0
  ·subst h1
   by_cases h2:hi=0
   ·subst h2
    cases o<;>
    ·go_enter Tryz.func194,Tryz.ntmps194
     go_wp2
     go_ret
     exact ⟨by first | rfl | simp,by go_grown⟩
   ·have h2':(hi==0)=false:=by simp [h2]
    rw [h2']
    cases o<;>
    ·go_enter Tryz.func194,Tryz.ntmps194
     go_wp2
     go_ret
     exact ⟨by first | rfl | simp,by go_grown⟩
  ·have h1':(lo==0)=false:=by simp [h1]
   rw [h1']
   cases o<;>
   ·go_enter Tryz.func194,Tryz.ntmps194
    go_wp2
    go_ret
    exact ⟨by first | rfl | simp,by go_grown⟩
 | true=>
  have e:itvB lo hi o true=if lo<0∨1099511627776<lo then false else if o=true then hi==0 else decide (lo≤hi∧hi≤1099511627776):=rfl
  rw [e]
  by_cases h1:lo<0
  ·rw [if_pos (Or.inl h1)]
   go_enter Tryz.func194,Tryz.ntmps194
   go_wp2
   go_ret
   exact ⟨by first | rfl | simp,by go_grown⟩
  by_cases h2:1099511627776<lo
  ·rw [if_pos (Or.inr h2)]
   go_enter Tryz.func194,Tryz.ntmps194
   go_wp2
   go_ret
   exact ⟨by first | rfl | simp,by go_grown⟩
  rw [if_neg (by omega)]
  cases o with
  | true=>
   rw [if_pos rfl]
   go_enter Tryz.func194,Tryz.ntmps194
   go_wp2
   go_ret
   exact ⟨by first | rfl | simp,by go_grown⟩
  | false=>
   rw [if_neg (by decide)]
   by_cases h3:lo≤hi
   ·by_cases h4:hi≤1099511627776
    ·rw [decide_eq_true (show lo≤hi∧hi≤1099511627776 from ⟨h3,h4⟩)]
     go_enter Tryz.func194,Tryz.ntmps194
     go_wp2
     go_ret
     exact ⟨by first | rfl | simp,by go_grown⟩
    ·rw [decide_eq_false (show ¬ (lo≤hi∧hi≤1099511627776) from fun h=>h4 h.2)]
     go_enter Tryz.func194,Tryz.ntmps194
     go_wp2
     go_ret
     exact ⟨by first | rfl | simp,by go_grown⟩
   ·rw [decide_eq_false (show ¬ (lo≤hi∧hi≤1099511627776) from fun h=>h3 h.1)]
    go_enter Tryz.func194,Tryz.ntmps194
    go_wp2
    go_ret
    exact ⟨by first | rfl | simp,by go_grown⟩
def manyB (k:Int) (nv nt:Nat):Bool:=if k=3 then decide (6<nt) else if k=20∨k=21 then decide (6<nv) else if k=10∨k=19 then decide (8<nv) else false
theorem dec_lt (a n:Nat):decide ((a:Int)<(n:Int))=decide (a<n):=by
 by_cases h:a<n
 ·rw [decide_eq_true h,decide_eq_true (by omega)]
 ·rw [decide_eq_false h,decide_eq_false (by omega)]
theorem toomany_any (k op lo hi:Int) (nm:ByteArray) (o:Bool) (pv pt ps pr:Option Addr) (nv cv nt ct ns cs nr cr:Nat) (w:World):
  Calls Tryz.prog 160 #[.agg #[.int .i64 k,.string nm,.int .i64 op,.slice pv nv cv,.slice pt nt ct,.int .i64 lo,.int .i64 hi,.bool o,.slice ps ns cs,.slice pr nr cr]] w fun r w'=>r=.returned (.bool (manyB k nv nt))∧Below w.heap.size w w':=by
 have hv6:=dec_lt 6 nv
 have hv8:=dec_lt 8 nv
 have ht6:=dec_lt 6 nt
 obtain ⟨R,eR⟩:∃ R:Bool,Hid (manyB k nv nt=R):=⟨_,rfl⟩
 rw [eR.out]
 have hR:Hid (R=if k=3 then decide (6<nt) else if k=20∨k=21 then decide (6<nv) else if k=10∨k=19 then decide (8<nv) else false):=eR.out.symm
 clear eR
 by_cases h3:k=3
 ·have hR2:Hid (R=decide (6<nt)):=by have h:=hR.out;rwa [if_pos h3] at h
  subst h3
  rw [hR2.out]
  go_enter Tryz.func160,Tryz.ntmps160
  go_wp2
  go_ret
  exact ⟨by first | rfl | (simp;done) | (simp;omega),by go_grown⟩
 by_cases h20:k=20∨k=21
 ·have hR2:Hid (R=decide (6<nv)):=by have h:=hR.out;rwa [if_neg h3,if_pos h20] at h
  rw [hR2.out]
  rcases h20 with rfl | rfl<;>
  ·go_enter Tryz.func160,Tryz.ntmps160
   go_wp2
   go_ret
   exact ⟨by first | rfl | (simp;done) | (simp;omega),by go_grown⟩
 by_cases h10:k=10∨k=19
 ·have hR2:Hid (R=decide (8<nv)):=by have h:=hR.out;rwa [if_neg h3,if_neg h20,if_pos h10] at h
  rw [hR2.out]
  rcases h10 with rfl | rfl<;>
  ·go_enter Tryz.func160,Tryz.ntmps160
   go_wp2
   go_ret
   exact ⟨by first | rfl | (simp;done) | (simp;omega),by go_grown⟩
 have hR2:Hid (R=false):=by have h:=hR.out;rwa [if_neg h3,if_neg h20,if_neg h10] at h
 rw [hR2.out]
 have k3:(k==3)=false:=by simp;omega
 have k20:(k==20)=false:=by simp;omega
 have k21:(k==21)=false:=by simp;omega
 have k10:(k==10)=false:=by simp;omega
 have k19:(k==19)=false:=by simp;omega
 go_enter Tryz.func160,Tryz.ntmps160
 go_wp2
 go_ret
 exact ⟨by first | rfl | (simp;done) | (simp;omega),by go_grown⟩
def rxE (r:Rx):Int:=if r.k<1∨5<r.k then 20 else if r.test.length≠(if r.k=2 then 1 else 0)∨r.subs.length≠(if r.k=3∨r.k=4 then 2 else if r.k=5 then 1 else 0) then 1 else 0
theorem NmsAt.form {w:World} {v:Value} {vs:List ByteArray} (h:NmsAt w v vs):∃ p c,v=.slice p vs.length c∧vs.length≤9223372036854775807∧vs.length≤c∧∀ i (hi:i<vs.length),∃ b off,p=some ⟨b,off,none⟩∧b<w.heap.size∧w.cell? ⟨b,off+i,none⟩=some (.string vs[i]):=by
 obtain ⟨hl,p,c,e,hc,h | ⟨b,off,h1,h2,h3⟩⟩:=h
 ·exact ⟨p,c,e,hl,hc,fun i hi=>by subst h;simp at hi⟩
 ·exact ⟨p,c,e,hl,hc,fun i hi=>⟨b,off,h1,h2,h3 i hi⟩⟩
def namesB:List ByteArray→Bool
 | []=>true
 | x::l=>nameB x && namesB l
theorem anames_any (V:Value) (vs:List ByteArray) (w:World) (hV:NmsAt w V vs):
  Calls Tryz.prog 191 #[V] w fun r w'=>r=.returned (.bool (namesB vs))∧w'=w:=by
 have cN:Hid (∀ (X:ByteArray) (W:World),Calls Tryz.prog 119 #[.string X] W fun e w'=>e=.returned (.bool (nameB X))∧w'=W):=fun X W=>name_any X W
 obtain ⟨p,c,rfl,hl, -,HX0⟩:=hV.form
 have HX:Hid (∀ i (hi:i<vs.length),∃ b off,p=some ⟨b,off,none⟩∧b<w.heap.size∧w.cell? ⟨b,off+i,none⟩=some (.string vs[i])):=HX0
 clear hV HX0
 obtain ⟨R,eR⟩:∃ R:Bool,Hid (namesB vs=R):=⟨_,rfl⟩
 obtain ⟨n,en⟩:∃ n:Nat,Hid (vs.length=n):=⟨_,rfl⟩
 rw [eR.out,en.out]
 rw [en.out] at hl
 go_enter Tryz.func191,Tryz.ntmps191
 go_wp2
 go_loop [7] (fun i=>∃ k:Nat,k≤n∧i=.int .i64 k∧Hid (R=namesB (vs.drop k))) (fun i=>n - (intOf i).toNat)
 case atStart=>exact ⟨0,Nat.zero_le _,rfl,by rw [List.drop_zero];exact eR.out.symm⟩
 case round=>
  obtain ⟨k,hk,rfl,hr⟩:=hrel
  by_cases hlt:k<n
  ·have kx:k<vs.length:=by have:=en.out;omega
   obtain ⟨b,off,rfl,hb,r0⟩:=HX.out k kx
   have hlt':(k:Int)<n:=by omega
   have hr2:Hid (R=(nameB vs[k] && namesB (vs.drop (k+1)))):=by
    have h:=hr.out
    rw [List.drop_eq_getElem_cons kx] at h
    exact h
   clear hr
   generalize vs[k]=X at r0 hr2
   have cN1:Hid (∀ W:World,Calls Tryz.prog 119 #[.string X] W fun e w'=>e=.returned (.bool (nameB X))∧w'=W):=fun W=>cN.out X W
   generalize nameB X=NB at cN1 hr2
   cases NB with
   | false=>
    have hr3:Hid (R=false):=by have h:=hr2.out;unfold Hid;simpa using h
    go_wp2_with fail
    refine (cN1.out _).mono ?_
    rintro e w2 ⟨rfl,rfl⟩
    clear cN1
    go_wp2
    go_ret
    rw [hr3.out]
    exact ⟨rfl,rfl⟩
   | true=>
    have hr3:Hid (R=namesB (vs.drop (k+1))):=by have h:=hr2.out;unfold Hid;simpa using h
    go_wp2_with fail
    refine (cN1.out _).mono ?_
    rintro e w2 ⟨rfl,rfl⟩
    clear cN1
    go_wp2
    exact ⟨⟨k+1,by omega,by go_num,hr3⟩,by simp [intOf];omega⟩
  ·have c2:¬ (k:Int)<n:=by omega
   have hr3:Hid (R=true):=by
    have h:=hr.out
    rw [List.drop_eq_nil_of_le (by have:=en.out;omega)] at h
    exact h
   go_wp2
   go_ret
   rw [hr3.out]
   exact ⟨rfl,rfl⟩
theorem takes_any (a b n:Int) (w:World):
  Calls Tryz.prog 190 #[.agg #[.int .i64 a,.int .i64 b],.int .i64 n] w fun r w'=>r=.returned (.bool (decide (a≤n∧n≤b)))∧Below w.heap.size w w':=by
 by_cases h1:a≤n
 ·by_cases h2:n≤b
  ·rw [decide_eq_true (show a≤n∧n≤b from ⟨h1,h2⟩)]
   go_enter Tryz.func190,Tryz.ntmps190
   go_wp2
   go_ret
   exact ⟨by first | rfl | simp,by go_grown⟩
  ·rw [decide_eq_false (show ¬ (a≤n∧n≤b) from fun h=>h2 h.2)]
   go_enter Tryz.func190,Tryz.ntmps190
   go_wp2
   go_ret
   exact ⟨by first | rfl | simp,by go_grown⟩
 ·rw [decide_eq_false (show ¬ (a≤n∧n≤b) from fun h=>h1 h.1)]
  go_enter Tryz.func190,Tryz.ntmps190
  go_wp2
  go_ret
  exact ⟨by first | rfl | simp,by go_grown⟩
structure Frm where
 nm:Bool
 op:Bool
 iv:Bool
 vl:Int
 vm:Int
 tl:Int
 tm:Int
 sl:Int
 sm:Int
 rl:Int
 rm:Int
def Frm.val (f:Frm):Value:=.agg #[.bool f.nm,.bool f.op,.bool f.iv,.int .i64 f.vl,.int .i64 f.vm,.int .i64 f.tl,.int .i64 f.tm,.int .i64 f.sl,.int .i64 f.sm,.int .i64 f.rl,.int .i64 f.rm]
def frm (k:Int):Frm:=if k=1 then ⟨false,false,false,0,0,0,0,0,0,0,0⟩ else if k=2 then ⟨false,false,false,0,0,0,0,0,0,0,0⟩ else if k=3 then ⟨true,false,false,0,0,0,6,0,0,0,0⟩ else if k=4 then ⟨false,false,false,0,0,2,2,0,0,0,0⟩ else if k=5 then ⟨false,false,false,0,0,2,2,0,0,0,0⟩ else if k=6 then ⟨false,false,false,0,0,2,2,0,0,0,0⟩ else if k=7 then ⟨false,false,false,0,0,0,0,1,1,0,0⟩ else if k=8 then ⟨false,false,false,0,0,0,0,2,2,0,0⟩ else if k=9 then ⟨false,false,false,0,0,0,0,2,2,0,0⟩ else if k=10 then ⟨false,false,false,1,8,0,0,1,1,0,0⟩ else if k=11 then ⟨false,false,true,0,0,0,0,1,1,0,0⟩ else if k=12 then ⟨false,false,true,0,0,0,0,1,1,0,0⟩ else if k=13 then ⟨false,false,true,0,0,0,0,1,1,0,0⟩ else if k=14 then ⟨false,false,true,0,0,0,0,1,1,0,0⟩ else if k=15 then ⟨false,false,true,0,0,0,0,2,2,0,0⟩ else if k=16 then ⟨false,false,true,0,0,0,0,2,2,0,0⟩ else if k=17 then ⟨false,false,true,0,0,0,0,0,0,1,1⟩ else if k=18 then ⟨false,false,true,0,0,0,0,0,0,1,1⟩ else if k=19 then ⟨true,true,false,1,8,0,0,1,1,0,0⟩ else if k=20 then ⟨true,false,false,0,6,0,0,2,2,0,0⟩ else if k=21 then ⟨true,false,false,0,6,0,0,2,2,0,0⟩ else ⟨false,false,false,0,0,0,0,1,9223372036854775807,0,0⟩
theorem formof_1 (w:World):Calls Tryz.prog 189 #[.int .i64 1] w fun r w'=>r=.returned (.agg #[.bool false,.bool false,.bool false,.int .i64 0,.int .i64 0,.int .i64 0,.int .i64 0,.int .i64 0,.int .i64 0,.int .i64 0,.int .i64 0])∧Below w.heap.size w w':=by
 go_enter Tryz.func189,Tryz.ntmps189
 go_wp2
 refine bodyPost_ret (by simp [results,Tryz.results189,go_sem];try rfl) rfl ?_
 exact ⟨rfl,by go_grown⟩
theorem formof_2 (w:World):Calls Tryz.prog 189 #[.int .i64 2] w fun r w'=>r=.returned (.agg #[.bool false,.bool false,.bool false,.int .i64 0,.int .i64 0,.int .i64 0,.int .i64 0,.int .i64 0,.int .i64 0,.int .i64 0,.int .i64 0])∧Below w.heap.size w w':=by
 go_enter Tryz.func189,Tryz.ntmps189
 go_wp2
 refine bodyPost_ret (by simp [results,Tryz.results189,go_sem];try rfl) rfl ?_
 exact ⟨rfl,by go_grown⟩
theorem formof_3 (w:World):Calls Tryz.prog 189 #[.int .i64 3] w fun r w'=>r=.returned (.agg #[.bool true,.bool false,.bool false,.int .i64 0,.int .i64 0,.int .i64 0,.int .i64 6,.int .i64 0,.int .i64 0,.int .i64 0,.int .i64 0])∧Below w.heap.size w w':=by
 go_enter Tryz.func189,Tryz.ntmps189
 go_wp2
 refine bodyPost_ret (by simp [results,Tryz.results189,go_sem];try rfl) rfl ?_
 exact ⟨rfl,by go_grown⟩
theorem formof_4 (w:World):Calls Tryz.prog 189 #[.int .i64 4] w fun r w'=>r=.returned (.agg #[.bool false,.bool false,.bool false,.int .i64 0,.int .i64 0,.int .i64 2,.int .i64 2,.int .i64 0,.int .i64 0,.int .i64 0,.int .i64 0])∧Below w.heap.size w w':=by
 go_enter Tryz.func189,Tryz.ntmps189
 go_wp2
 refine bodyPost_ret (by simp [results,Tryz.results189,go_sem];try rfl) rfl ?_
 exact ⟨rfl,by go_grown⟩
theorem formof_5 (w:World):Calls Tryz.prog 189 #[.int .i64 5] w fun r w'=>r=.returned (.agg #[.bool false,.bool false,.bool false,.int .i64 0,.int .i64 0,.int .i64 2,.int .i64 2,.int .i64 0,.int .i64 0,.int .i64 0,.int .i64 0])∧Below w.heap.size w w':=by
 go_enter Tryz.func189,Tryz.ntmps189
 go_wp2
 refine bodyPost_ret (by simp [results,Tryz.results189,go_sem];try rfl) rfl ?_
 exact ⟨rfl,by go_grown⟩
theorem formof_6 (w:World):Calls Tryz.prog 189 #[.int .i64 6] w fun r w'=>r=.returned (.agg #[.bool false,.bool false,.bool false,.int .i64 0,.int .i64 0,.int .i64 2,.int .i64 2,.int .i64 0,.int .i64 0,.int .i64 0,.int .i64 0])∧Below w.heap.size w w':=by
 go_enter Tryz.func189,Tryz.ntmps189
 go_wp2
 refine bodyPost_ret (by simp [results,Tryz.results189,go_sem];try rfl) rfl ?_
 exact ⟨rfl,by go_grown⟩
theorem formof_7 (w:World):Calls Tryz.prog 189 #[.int .i64 7] w fun r w'=>r=.returned (.agg #[.bool false,.bool false,.bool false,.int .i64 0,.int .i64 0,.int .i64 0,.int .i64 0,.int .i64 1,.int .i64 1,.int .i64 0,.int .i64 0])∧Below w.heap.size w w':=by
 go_enter Tryz.func189,Tryz.ntmps189
 go_wp2
 refine bodyPost_ret (by simp [results,Tryz.results189,go_sem];try rfl) rfl ?_
 exact ⟨rfl,by go_grown⟩
theorem formof_8 (w:World):Calls Tryz.prog 189 #[.int .i64 8] w fun r w'=>r=.returned (.agg #[.bool false,.bool false,.bool false,.int .i64 0,.int .i64 0,.int .i64 0,.int .i64 0,.int .i64 2,.int .i64 2,.int .i64 0,.int .i64 0])∧Below w.heap.size w w':=by
 go_enter Tryz.func189,Tryz.ntmps189
 go_wp2
 refine bodyPost_ret (by simp [results,Tryz.results189,go_sem];try rfl) rfl ?_
 exact ⟨rfl,by go_grown⟩
theorem formof_9 (w:World):Calls Tryz.prog 189 #[.int .i64 9] w fun r w'=>r=.returned (.agg #[.bool false,.bool false,.bool false,.int .i64 0,.int .i64 0,.int .i64 0,.int .i64 0,.int .i64 2,.int .i64 2,.int .i64 0,.int .i64 0])∧Below w.heap.size w w':=by
 go_enter Tryz.func189,Tryz.ntmps189
 go_wp2
 refine bodyPost_ret (by simp [results,Tryz.results189,go_sem];try rfl) rfl ?_
 exact ⟨rfl,by go_grown⟩
theorem formof_10 (w:World):Calls Tryz.prog 189 #[.int .i64 10] w fun r w'=>r=.returned (.agg #[.bool false,.bool false,.bool false,.int .i64 1,.int .i64 8,.int .i64 0,.int .i64 0,.int .i64 1,.int .i64 1,.int .i64 0,.int .i64 0])∧Below w.heap.size w w':=by
 go_enter Tryz.func189,Tryz.ntmps189
 go_wp2
 refine bodyPost_ret (by simp [results,Tryz.results189,go_sem];try rfl) rfl ?_
 exact ⟨rfl,by go_grown⟩
theorem formof_11 (w:World):Calls Tryz.prog 189 #[.int .i64 11] w fun r w'=>r=.returned (.agg #[.bool false,.bool false,.bool true,.int .i64 0,.int .i64 0,.int .i64 0,.int .i64 0,.int .i64 1,.int .i64 1,.int .i64 0,.int .i64 0])∧Below w.heap.size w w':=by
 go_enter Tryz.func189,Tryz.ntmps189
 go_wp2
 refine bodyPost_ret (by simp [results,Tryz.results189,go_sem];try rfl) rfl ?_
 exact ⟨rfl,by go_grown⟩
theorem formof_12 (w:World):Calls Tryz.prog 189 #[.int .i64 12] w fun r w'=>r=.returned (.agg #[.bool false,.bool false,.bool true,.int .i64 0,.int .i64 0,.int .i64 0,.int .i64 0,.int .i64 1,.int .i64 1,.int .i64 0,.int .i64 0])∧Below w.heap.size w w':=by
 go_enter Tryz.func189,Tryz.ntmps189
 go_wp2
 refine bodyPost_ret (by simp [results,Tryz.results189,go_sem];try rfl) rfl ?_
 exact ⟨rfl,by go_grown⟩
theorem formof_13 (w:World):Calls Tryz.prog 189 #[.int .i64 13] w fun r w'=>r=.returned (.agg #[.bool false,.bool false,.bool true,.int .i64 0,.int .i64 0,.int .i64 0,.int .i64 0,.int .i64 1,.int .i64 1,.int .i64 0,.int .i64 0])∧Below w.heap.size w w':=by
 go_enter Tryz.func189,Tryz.ntmps189
 go_wp2
 refine bodyPost_ret (by simp [results,Tryz.results189,go_sem];try rfl) rfl ?_
 exact ⟨rfl,by go_grown⟩
theorem formof_14 (w:World):Calls Tryz.prog 189 #[.int .i64 14] w fun r w'=>r=.returned (.agg #[.bool false,.bool false,.bool true,.int .i64 0,.int .i64 0,.int .i64 0,.int .i64 0,.int .i64 1,.int .i64 1,.int .i64 0,.int .i64 0])∧Below w.heap.size w w':=by
 go_enter Tryz.func189,Tryz.ntmps189
 go_wp2
 refine bodyPost_ret (by simp [results,Tryz.results189,go_sem];try rfl) rfl ?_
 exact ⟨rfl,by go_grown⟩
theorem formof_15 (w:World):Calls Tryz.prog 189 #[.int .i64 15] w fun r w'=>r=.returned (.agg #[.bool false,.bool false,.bool true,.int .i64 0,.int .i64 0,.int .i64 0,.int .i64 0,.int .i64 2,.int .i64 2,.int .i64 0,.int .i64 0])∧Below w.heap.size w w':=by
 go_enter Tryz.func189,Tryz.ntmps189
 go_wp2
 refine bodyPost_ret (by simp [results,Tryz.results189,go_sem];try rfl) rfl ?_
 exact ⟨rfl,by go_grown⟩
theorem formof_16 (w:World):Calls Tryz.prog 189 #[.int .i64 16] w fun r w'=>r=.returned (.agg #[.bool false,.bool false,.bool true,.int .i64 0,.int .i64 0,.int .i64 0,.int .i64 0,.int .i64 2,.int .i64 2,.int .i64 0,.int .i64 0])∧Below w.heap.size w w':=by
 go_enter Tryz.func189,Tryz.ntmps189
 go_wp2
 refine bodyPost_ret (by simp [results,Tryz.results189,go_sem];try rfl) rfl ?_
 exact ⟨rfl,by go_grown⟩
theorem formof_17 (w:World):Calls Tryz.prog 189 #[.int .i64 17] w fun r w'=>r=.returned (.agg #[.bool false,.bool false,.bool true,.int .i64 0,.int .i64 0,.int .i64 0,.int .i64 0,.int .i64 0,.int .i64 0,.int .i64 1,.int .i64 1])∧Below w.heap.size w w':=by
 go_enter Tryz.func189,Tryz.ntmps189
 go_wp2
 refine bodyPost_ret (by simp [results,Tryz.results189,go_sem];try rfl) rfl ?_
 exact ⟨rfl,by go_grown⟩
theorem formof_18 (w:World):Calls Tryz.prog 189 #[.int .i64 18] w fun r w'=>r=.returned (.agg #[.bool false,.bool false,.bool true,.int .i64 0,.int .i64 0,.int .i64 0,.int .i64 0,.int .i64 0,.int .i64 0,.int .i64 1,.int .i64 1])∧Below w.heap.size w w':=by
 go_enter Tryz.func189,Tryz.ntmps189
 go_wp2
 refine bodyPost_ret (by simp [results,Tryz.results189,go_sem];try rfl) rfl ?_
 exact ⟨rfl,by go_grown⟩
theorem formof_19 (w:World):Calls Tryz.prog 189 #[.int .i64 19] w fun r w'=>r=.returned (.agg #[.bool true,.bool true,.bool false,.int .i64 1,.int .i64 8,.int .i64 0,.int .i64 0,.int .i64 1,.int .i64 1,.int .i64 0,.int .i64 0])∧Below w.heap.size w w':=by
 go_enter Tryz.func189,Tryz.ntmps189
 go_wp2
 refine bodyPost_ret (by simp [results,Tryz.results189,go_sem];try rfl) rfl ?_
 exact ⟨rfl,by go_grown⟩
theorem formof_20 (w:World):Calls Tryz.prog 189 #[.int .i64 20] w fun r w'=>r=.returned (.agg #[.bool true,.bool false,.bool false,.int .i64 0,.int .i64 6,.int .i64 0,.int .i64 0,.int .i64 2,.int .i64 2,.int .i64 0,.int .i64 0])∧Below w.heap.size w w':=by
 go_enter Tryz.func189,Tryz.ntmps189
 go_wp2
 refine bodyPost_ret (by simp [results,Tryz.results189,go_sem];try rfl) rfl ?_
 exact ⟨rfl,by go_grown⟩
theorem formof_21 (w:World):Calls Tryz.prog 189 #[.int .i64 21] w fun r w'=>r=.returned (.agg #[.bool true,.bool false,.bool false,.int .i64 0,.int .i64 6,.int .i64 0,.int .i64 0,.int .i64 2,.int .i64 2,.int .i64 0,.int .i64 0])∧Below w.heap.size w w':=by
 go_enter Tryz.func189,Tryz.ntmps189
 go_wp2
 refine bodyPost_ret (by simp [results,Tryz.results189,go_sem];try rfl) rfl ?_
 exact ⟨rfl,by go_grown⟩
theorem formof_22 (w:World):Calls Tryz.prog 189 #[.int .i64 22] w fun r w'=>r=.returned (.agg #[.bool false,.bool false,.bool false,.int .i64 0,.int .i64 0,.int .i64 0,.int .i64 0,.int .i64 1,.int .i64 9223372036854775807,.int .i64 0,.int .i64 0])∧Below w.heap.size w w':=by
 go_enter Tryz.func189,Tryz.ntmps189
 go_wp2
 refine bodyPost_ret (by simp [results,Tryz.results189,go_sem];try rfl) rfl ?_
 exact ⟨rfl,by go_grown⟩
theorem formof_any (k:Int) (w:World) (h:1≤k∧k≤22):Calls Tryz.prog 189 #[.int .i64 k] w fun r w'=>r=.returned (frm k).val∧Below w.heap.size w w':=by
 have:k=1∨k=2∨k=3∨k=4∨k=5∨k=6∨k=7∨k=8∨k=9∨k=10∨k=11∨k=12∨k=13∨k=14∨k=15∨k=16∨k=17∨k=18∨k=19∨k=20∨k=21∨k=22:=by omega
 rcases this with rfl | rfl | rfl | rfl | rfl | rfl | rfl | rfl | rfl | rfl | rfl | rfl | rfl | rfl | rfl | rfl | rfl | rfl | rfl | rfl | rfl | rfl
 ·exact formof_1 w
 ·exact formof_2 w
 ·exact formof_3 w
 ·exact formof_4 w
 ·exact formof_5 w
 ·exact formof_6 w
 ·exact formof_7 w
 ·exact formof_8 w
 ·exact formof_9 w
 ·exact formof_10 w
 ·exact formof_11 w
 ·exact formof_12 w
 ·exact formof_13 w
 ·exact formof_14 w
 ·exact formof_15 w
 ·exact formof_16 w
 ·exact formof_17 w
 ·exact formof_18 w
 ·exact formof_19 w
 ·exact formof_20 w
 ·exact formof_21 w
 ·exact formof_22 w
theorem acont_any (U:Value) (us:List ByteArray) (X:ByteArray) (w:World) (h:NmsAt w U us):
  Calls Tryz.prog 163 #[U,.string X] w fun e w'=>e=.returned (.bool (Lib.containsS us X))∧w'=w:=by
 obtain ⟨lu,p,c,rfl,hc,rfl | ⟨b,off,rfl,hb,hs⟩⟩:=h
 ·exact Tryz.slices_Contains_string_empty p c X w
 ·have h:=Tryz.slices_Contains_string b off us.length c us X w (Nat.le_refl _) lu (fun j hj=>by rw [hs j hj];simp [List.getD,hj])
  rwa [List.take_length] at h
theorem NmsAt.take {w:World} {p:Option Addr} {n c:Nat} {vs:List ByteArray} (h:NmsAt w (.slice p n c) vs) (k:Nat) (hk:k≤vs.length):NmsAt w (.slice p k c) (vs.take k):=by
 obtain ⟨hl,p',c',e,hc,h⟩:=h
 injection e with e1 e2 e3
 subst e1 e3
 refine ⟨by rw [List.length_take];omega,p,c,by rw [List.length_take,Nat.min_eq_left hk],by rw [List.length_take];omega, ?_⟩
 rcases h with h | ⟨b,off,h1,h2,h3⟩
 ·exact Or.inl (by rw [h];simp)
 ·refine Or.inr ⟨b,off,h1,h2,fun i hi=> ?_⟩
  rw [List.length_take] at hi
  rw [List.getElem_take]
  exact h3 i (by omega)
def repN (acc:List ByteArray):List ByteArray→Bool
 | []=>false
 | x::l=>Lib.containsS acc x || repN (acc++[x]) l
theorem arep_any (V:Value) (vs:List ByteArray) (w:World) (hV:NmsAt w V vs):
  Calls Tryz.prog 162 #[V] w fun r w'=>r=.returned (.bool (repN [] vs))∧w'=w:=by
 have HV0:=hV
 obtain ⟨p,c,rfl,hl,hc,HX0⟩:=hV.form
 have HX:Hid (∀ i (hi:i<vs.length),∃ b off,p=some ⟨b,off,none⟩∧b<w.heap.size∧w.cell? ⟨b,off+i,none⟩=some (.string vs[i])):=HX0
 have cC:Hid (∀ (k:Nat) (X:ByteArray),k≤vs.length→Calls Tryz.prog 163 #[.slice p k c,.string X] w fun e w'=>e=.returned (.bool (Lib.containsS (vs.take k) X))∧w'=w):=fun k X hk=>acont_any _ _ X w (HV0.take k hk)
 clear hV HX0 HV0
 obtain ⟨R,eR⟩:∃ R:Bool,Hid (repN [] vs=R):=⟨_,rfl⟩
 obtain ⟨n,en⟩:∃ n:Nat,Hid (vs.length=n):=⟨_,rfl⟩
 rw [eR.out,en.out]
 rw [en.out] at hl hc
 go_enter Tryz.func162,Tryz.ntmps162
 go_wp2
 go_loop [7] (fun i=>∃ k:Nat,k≤n∧i=.int .i64 k∧Hid (R=repN (vs.take k) (vs.drop k))) (fun i=>n - (intOf i).toNat)
 case atStart=>exact ⟨0,Nat.zero_le _,rfl,by rw [List.drop_zero];exact eR.out.symm⟩
 case round=>
  obtain ⟨k,hk,rfl,hr⟩:=hrel
  by_cases hlt:k<n
  ·have kx:k<vs.length:=by have:=en.out;omega
   obtain ⟨b,off,rfl,hb,r0⟩:=HX.out k kx
   have hlt':(k:Int)<n:=by omega
   have hkc:(k:Int)≤c:=by omega
   have hr2:Hid (R=(Lib.containsS (vs.take k) vs[k] || repN (vs.take (k+1)) (vs.drop (k+1)))):=by
    have h:=hr.out
    rw [List.drop_eq_getElem_cons kx] at h
    rw [h,List.take_succ_eq_append_getElem kx]
    rfl
   clear hr
   have cC1:=cC.out k vs[k] (by have:=en.out;omega)
   generalize vs[k]=X at r0 hr2 cC1
   generalize Lib.containsS (vs.take k) X=CB at cC1 hr2
   have CC1:Hid (Calls Tryz.prog 163 #[.slice (some ⟨b,off,none⟩) k c,.string X] w fun e w'=>e=.returned (.bool CB)∧w'=w):=cC1
   clear cC1
   cases CB with
   | true=>
    have hr3:Hid (R=true):=by have h:=hr2.out;unfold Hid;simpa using h
    go_wp2_with fail
    refine CC1.out.mono ?_
    rintro e w2 ⟨rfl,rfl⟩
    clear CC1
    go_wp2
    go_ret
    rw [hr3.out]
    exact ⟨rfl,rfl⟩
   | false=>
    have hr3:Hid (R=repN (vs.take (k+1)) (vs.drop (k+1))):=by have h:=hr2.out;unfold Hid;simpa using h
    go_wp2_with fail
    refine CC1.out.mono ?_
    rintro e w2 ⟨rfl,rfl⟩
    clear CC1
    go_wp2
    exact ⟨⟨k+1,by omega,by go_num,hr3⟩,by simp [intOf];omega⟩
  ·have c2:¬ (k:Int)<n:=by omega
   have hr3:Hid (R=false):=by
    have h:=hr.out
    rw [List.drop_eq_nil_of_le (by have:=en.out;omega)] at h
    exact h
   go_wp2
   go_ret
   rw [hr3.out]
   exact ⟨rfl,rfl⟩
def formedM (m:Frm) (op lo hi:Int) (nm:ByteArray) (o:Bool) (vars:List ByteArray) (nt ns nr:Nat):Bool:=decide (m.vl≤(vars.length:Int)∧(vars.length:Int)≤m.vm) && (decide (m.tl≤(nt:Int)∧(nt:Int)≤m.tm) && (decide (m.sl≤(ns:Int)∧(ns:Int)≤m.sm) && (decide (m.rl≤(nr:Int)∧(nr:Int)≤m.rm) && (namesB vars && ((if m.nm=true then nameB nm else nm.toList==[]) && (opB op m.op && itvB lo hi o m.iv))))))
theorem formed_any (k op lo hi:Int) (nm:ByteArray) (o:Bool) (V:Value) (vars:List ByteArray) (pt ps pr:Option Addr) (nt ct ns cs nr cr:Nat) (w:World) (hV:NmsAt w V vars) (hk:1≤k∧k≤22):
  Calls Tryz.prog 161 #[.agg #[.int .i64 k,.string nm,.int .i64 op,V,.slice pt nt ct,.int .i64 lo,.int .i64 hi,.bool o,.slice ps ns cs,.slice pr nr cr]] w fun r w'=>r=.returned (.bool (formedM (frm k) op lo hi nm o vars nt ns nr))∧Below w.heap.size w w':=by
 have cF:Hid (∀ W:World,Calls Tryz.prog 189 #[.int .i64 k] W fun r w'=>r=.returned (frm k).val∧Below W.heap.size W w'):=fun W=>formof_any k W hk
 have cT:Hid (∀ (a b n:Int) (W:World),Calls Tryz.prog 190 #[.agg #[.int .i64 a,.int .i64 b],.int .i64 n] W fun r w'=>r=.returned (.bool (decide (a≤n∧n≤b)))∧Below W.heap.size W w'):=fun a b n W=>takes_any a b n W
 have cA:Hid (∀ W:World,Below w.heap.size w W→Calls Tryz.prog 191 #[V] W fun r w'=>r=.returned (.bool (namesB vars))∧w'=W):=fun W hW=>anames_any V vars W (hV.below hW)
 have cM:Hid (∀ (b:Bool) (W:World),Calls Tryz.prog 192 #[.string nm,.bool b] W fun r w'=>r=.returned (.bool (if b=true then nameB nm else nm.toList==[]))∧w'=W):=fun b W=>named_any nm b W
 have cO:Hid (∀ (b:Bool) (W:World),Calls Tryz.prog 193 #[.int .i64 op,.bool b] W fun r w'=>r=.returned (.bool (opB op b))∧w'=W):=fun b W=>isop_any op b W
 have cI:Hid (∀ (b:Bool) (W:World),Calls Tryz.prog 194 #[.agg #[.int .i64 lo,.int .i64 hi,.bool o],.bool b] W fun r w'=>r=.returned (.bool (itvB lo hi o b))∧Below W.heap.size W w'):=fun b W=>isiv_any lo hi o b W
 generalize frm k=m at*
 obtain ⟨pv,cv,rfl, -⟩:=hV.form
 obtain ⟨nv,env⟩:∃ n:Nat,Hid (vars.length=n):=⟨_,rfl⟩
 have hR:Hid (formedM m op lo hi nm o vars nt ns nr=(decide (m.vl≤(nv:Int)∧(nv:Int)≤m.vm) && (decide (m.tl≤(nt:Int)∧(nt:Int)≤m.tm) && (decide (m.sl≤(ns:Int)∧(ns:Int)≤m.sm) && (decide (m.rl≤(nr:Int)∧(nr:Int)≤m.rm) && (namesB vars && ((if m.nm=true then nameB nm else nm.toList==[]) && (opB op m.op && itvB lo hi o m.iv)))))))):=by
  unfold Hid formedM
  rw [env.out]
 rw [env.out] at cA ⊢
 generalize formedM m op lo hi nm o vars nt ns nr=R at*
 have c1:Hid (∀ W:World,Calls Tryz.prog 190 #[.agg #[.int .i64 m.vl,.int .i64 m.vm],.int .i64 nv] W fun r w'=>r=.returned (.bool (decide (m.vl≤(nv:Int)∧(nv:Int)≤m.vm)))∧Below W.heap.size W w'):=fun W=>cT.out _ _ _ W
 have c2:Hid (∀ W:World,Calls Tryz.prog 190 #[.agg #[.int .i64 m.tl,.int .i64 m.tm],.int .i64 nt] W fun r w'=>r=.returned (.bool (decide (m.tl≤(nt:Int)∧(nt:Int)≤m.tm)))∧Below W.heap.size W w'):=fun W=>cT.out _ _ _ W
 have c3:Hid (∀ W:World,Calls Tryz.prog 190 #[.agg #[.int .i64 m.sl,.int .i64 m.sm],.int .i64 ns] W fun r w'=>r=.returned (.bool (decide (m.sl≤(ns:Int)∧(ns:Int)≤m.sm)))∧Below W.heap.size W w'):=fun W=>cT.out _ _ _ W
 have c4:Hid (∀ W:World,Calls Tryz.prog 190 #[.agg #[.int .i64 m.rl,.int .i64 m.rm],.int .i64 nr] W fun r w'=>r=.returned (.bool (decide (m.rl≤(nr:Int)∧(nr:Int)≤m.rm)))∧Below W.heap.size W w'):=fun W=>cT.out _ _ _ W
 have c6:Hid (∀ W:World,Calls Tryz.prog 192 #[.string nm,.bool m.nm] W fun r w'=>r=.returned (.bool (if m.nm=true then nameB nm else nm.toList==[]))∧w'=W):=fun W=>cM.out m.nm W
 have c7:Hid (∀ W:World,Calls Tryz.prog 193 #[.int .i64 op,.bool m.op] W fun r w'=>r=.returned (.bool (opB op m.op))∧w'=W):=fun W=>cO.out m.op W
 have c8:Hid (∀ W:World,Calls Tryz.prog 194 #[.agg #[.int .i64 lo,.int .i64 hi,.bool o],.bool m.iv] W fun r w'=>r=.returned (.bool (itvB lo hi o m.iv))∧Below W.heap.size W w'):=fun W=>cI.out m.iv W
 clear cT cM cO cI hV
 generalize decide (m.vl≤(nv:Int)∧(nv:Int)≤m.vm)=b1 at*
 generalize decide (m.tl≤(nt:Int)∧(nt:Int)≤m.tm)=b2 at*
 generalize decide (m.sl≤(ns:Int)∧(ns:Int)≤m.sm)=b3 at*
 generalize decide (m.rl≤(nr:Int)∧(nr:Int)≤m.rm)=b4 at*
 generalize namesB vars=b5 at*
 generalize (if m.nm=true then nameB nm else nm.toList==[])=b6 at*
 generalize opB op m.op=b7 at*
 generalize itvB lo hi o m.iv=b8 at*
 unfold Frm.val at cF
 obtain ⟨mnm,mop,miv,mvl,mvm,mtl,mtm,msl,msm,mrl,mrm⟩:=m
 dsimp only at cF c1 c2 c3 c4 c6 c7 c8
 go_enter Tryz.func161,Tryz.ntmps161
 go_wp2_with fail
 refine (cF.out _).mono ?_
 rintro r w1 ⟨rfl,hb1⟩
 have x0:w1.cell? ⟨w.heap.size,0,none⟩=some (.int .i64 k):=(hb1.cell (p:=⟨w.heap.size,0,none⟩) (by simp)).trans (by simp [go_sem])
 have x1:w1.cell? ⟨w.heap.size,1,none⟩=some (.string nm):=(hb1.cell (p:=⟨w.heap.size,1,none⟩) (by simp)).trans (by simp [go_sem])
 have x2:w1.cell? ⟨w.heap.size,2,none⟩=some (.int .i64 op):=(hb1.cell (p:=⟨w.heap.size,2,none⟩) (by simp)).trans (by simp [go_sem])
 have x3:w1.cell? ⟨w.heap.size,3,none⟩=some (.slice pv nv cv):=(hb1.cell (p:=⟨w.heap.size,3,none⟩) (by simp)).trans (by simp [go_sem])
 have x4:w1.cell? ⟨w.heap.size,4,none⟩=some (.slice pt nt ct):=(hb1.cell (p:=⟨w.heap.size,4,none⟩) (by simp)).trans (by simp [go_sem])
 have x5:w1.cell? ⟨w.heap.size,5,none⟩=some (.int .i64 lo):=(hb1.cell (p:=⟨w.heap.size,5,none⟩) (by simp)).trans (by simp [go_sem])
 have x6:w1.cell? ⟨w.heap.size,6,none⟩=some (.int .i64 hi):=(hb1.cell (p:=⟨w.heap.size,6,none⟩) (by simp)).trans (by simp [go_sem])
 have x7:w1.cell? ⟨w.heap.size,7,none⟩=some (.bool o):=(hb1.cell (p:=⟨w.heap.size,7,none⟩) (by simp)).trans (by simp [go_sem])
 have x8:w1.cell? ⟨w.heap.size,8,none⟩=some (.slice ps ns cs):=(hb1.cell (p:=⟨w.heap.size,8,none⟩) (by simp)).trans (by simp [go_sem])
 have x9:w1.cell? ⟨w.heap.size,9,none⟩=some (.slice pr nr cr):=(hb1.cell (p:=⟨w.heap.size,9,none⟩) (by simp)).trans (by simp [go_sem])
 have hs1:w.heap.size<w1.heap.size:=by have:=hb1.size;simp at this;omega
 have hne1:w.heap.size≠w1.heap.size:=by omega
 obtain ⟨hB1, -⟩:=bgX (n:=w.heap.size) (W0:=w) (by go_grown) (by go_size) hb1
 clear hb1 cF
 go_wp2_with fail
 refine (c1.out _).mono ?_
 rintro r w2 ⟨rfl,hb2⟩
 have x0':w2.cell? ⟨w.heap.size,0,none⟩=some (.int .i64 k):=(hb2.cell (p:=⟨w.heap.size,0,none⟩) (by simp;omega)).trans (by simp (maxDischargeDepth:=6) [go_sem, *])
 have x1':w2.cell? ⟨w.heap.size,1,none⟩=some (.string nm):=(hb2.cell (p:=⟨w.heap.size,1,none⟩) (by simp;omega)).trans (by simp (maxDischargeDepth:=6) [go_sem, *])
 have x2':w2.cell? ⟨w.heap.size,2,none⟩=some (.int .i64 op):=(hb2.cell (p:=⟨w.heap.size,2,none⟩) (by simp;omega)).trans (by simp (maxDischargeDepth:=6) [go_sem, *])
 have x3':w2.cell? ⟨w.heap.size,3,none⟩=some (.slice pv nv cv):=(hb2.cell (p:=⟨w.heap.size,3,none⟩) (by simp;omega)).trans (by simp (maxDischargeDepth:=6) [go_sem, *])
 have x4':w2.cell? ⟨w.heap.size,4,none⟩=some (.slice pt nt ct):=(hb2.cell (p:=⟨w.heap.size,4,none⟩) (by simp;omega)).trans (by simp (maxDischargeDepth:=6) [go_sem, *])
 have x5':w2.cell? ⟨w.heap.size,5,none⟩=some (.int .i64 lo):=(hb2.cell (p:=⟨w.heap.size,5,none⟩) (by simp;omega)).trans (by simp (maxDischargeDepth:=6) [go_sem, *])
 have x6':w2.cell? ⟨w.heap.size,6,none⟩=some (.int .i64 hi):=(hb2.cell (p:=⟨w.heap.size,6,none⟩) (by simp;omega)).trans (by simp (maxDischargeDepth:=6) [go_sem, *])
 have x7':w2.cell? ⟨w.heap.size,7,none⟩=some (.bool o):=(hb2.cell (p:=⟨w.heap.size,7,none⟩) (by simp;omega)).trans (by simp (maxDischargeDepth:=6) [go_sem, *])
 have x8':w2.cell? ⟨w.heap.size,8,none⟩=some (.slice ps ns cs):=(hb2.cell (p:=⟨w.heap.size,8,none⟩) (by simp;omega)).trans (by simp (maxDischargeDepth:=6) [go_sem, *])
 have x9':w2.cell? ⟨w.heap.size,9,none⟩=some (.slice pr nr cr):=(hb2.cell (p:=⟨w.heap.size,9,none⟩) (by simp;omega)).trans (by simp (maxDischargeDepth:=6) [go_sem, *])
 have y0:w2.cell? ⟨w1.heap.size,0,none⟩=some (.bool mnm):=(hb2.cell (p:=⟨w1.heap.size,0,none⟩) (by simp)).trans (by simp [go_sem])
 have y1:w2.cell? ⟨w1.heap.size,1,none⟩=some (.bool mop):=(hb2.cell (p:=⟨w1.heap.size,1,none⟩) (by simp)).trans (by simp [go_sem])
 have y2:w2.cell? ⟨w1.heap.size,2,none⟩=some (.bool miv):=(hb2.cell (p:=⟨w1.heap.size,2,none⟩) (by simp)).trans (by simp [go_sem])
 have y3:w2.cell? ⟨w1.heap.size,3,none⟩=some (.int .i64 mvl):=(hb2.cell (p:=⟨w1.heap.size,3,none⟩) (by simp)).trans (by simp [go_sem])
 have y4:w2.cell? ⟨w1.heap.size,4,none⟩=some (.int .i64 mvm):=(hb2.cell (p:=⟨w1.heap.size,4,none⟩) (by simp)).trans (by simp [go_sem])
 have y5:w2.cell? ⟨w1.heap.size,5,none⟩=some (.int .i64 mtl):=(hb2.cell (p:=⟨w1.heap.size,5,none⟩) (by simp)).trans (by simp [go_sem])
 have y6:w2.cell? ⟨w1.heap.size,6,none⟩=some (.int .i64 mtm):=(hb2.cell (p:=⟨w1.heap.size,6,none⟩) (by simp)).trans (by simp [go_sem])
 have y7:w2.cell? ⟨w1.heap.size,7,none⟩=some (.int .i64 msl):=(hb2.cell (p:=⟨w1.heap.size,7,none⟩) (by simp)).trans (by simp [go_sem])
 have y8:w2.cell? ⟨w1.heap.size,8,none⟩=some (.int .i64 msm):=(hb2.cell (p:=⟨w1.heap.size,8,none⟩) (by simp)).trans (by simp [go_sem])
 have y9:w2.cell? ⟨w1.heap.size,9,none⟩=some (.int .i64 mrl):=(hb2.cell (p:=⟨w1.heap.size,9,none⟩) (by simp)).trans (by simp [go_sem])
 have y10:w2.cell? ⟨w1.heap.size,10,none⟩=some (.int .i64 mrm):=(hb2.cell (p:=⟨w1.heap.size,10,none⟩) (by simp)).trans (by simp [go_sem])
 have hs2:w1.heap.size<w2.heap.size:=by have:=hb2.size;simp at this;omega
 obtain ⟨hB2, -⟩:=bgX (n:=w1.heap.size) (W0:=w1) (by go_grown) (by go_size) hb2
 have K2:Below w.heap.size w w2:=hB1.trans (hB2.mono hB1.size)
 clear hb2 c1 hB2 x0 x1 x2 x3 x4 x5 x6 x7 x8 x9
 have FACT:Hid (∀ W:World,Below w2.heap.size w2 W→W.cell? ⟨w.heap.size,0,none⟩=some (.int .i64 k)∧W.cell? ⟨w.heap.size,1,none⟩=some (.string nm)∧W.cell? ⟨w.heap.size,2,none⟩=some (.int .i64 op)∧W.cell? ⟨w.heap.size,3,none⟩=some (.slice pv nv cv)∧W.cell? ⟨w.heap.size,4,none⟩=some (.slice pt nt ct)∧W.cell? ⟨w.heap.size,5,none⟩=some (.int .i64 lo)∧W.cell? ⟨w.heap.size,6,none⟩=some (.int .i64 hi)∧W.cell? ⟨w.heap.size,7,none⟩=some (.bool o)∧W.cell? ⟨w.heap.size,8,none⟩=some (.slice ps ns cs)∧W.cell? ⟨w.heap.size,9,none⟩=some (.slice pr nr cr)∧W.cell? ⟨w1.heap.size,0,none⟩=some (.bool mnm)∧W.cell? ⟨w1.heap.size,1,none⟩=some (.bool mop)∧W.cell? ⟨w1.heap.size,2,none⟩=some (.bool miv)∧W.cell? ⟨w1.heap.size,3,none⟩=some (.int .i64 mvl)∧W.cell? ⟨w1.heap.size,4,none⟩=some (.int .i64 mvm)∧W.cell? ⟨w1.heap.size,5,none⟩=some (.int .i64 mtl)∧W.cell? ⟨w1.heap.size,6,none⟩=some (.int .i64 mtm)∧W.cell? ⟨w1.heap.size,7,none⟩=some (.int .i64 msl)∧W.cell? ⟨w1.heap.size,8,none⟩=some (.int .i64 msm)∧W.cell? ⟨w1.heap.size,9,none⟩=some (.int .i64 mrl)∧W.cell? ⟨w1.heap.size,10,none⟩=some (.int .i64 mrm)∧Below w.heap.size w W):=fun W hW=>⟨(hW.cell (p:=⟨w.heap.size,0,none⟩) (by show w.heap.size<w2.heap.size;omega)).trans x0',(hW.cell (p:=⟨w.heap.size,1,none⟩) (by show w.heap.size<w2.heap.size;omega)).trans x1',(hW.cell (p:=⟨w.heap.size,2,none⟩) (by show w.heap.size<w2.heap.size;omega)).trans x2',(hW.cell (p:=⟨w.heap.size,3,none⟩) (by show w.heap.size<w2.heap.size;omega)).trans x3',(hW.cell (p:=⟨w.heap.size,4,none⟩) (by show w.heap.size<w2.heap.size;omega)).trans x4',(hW.cell (p:=⟨w.heap.size,5,none⟩) (by show w.heap.size<w2.heap.size;omega)).trans x5',(hW.cell (p:=⟨w.heap.size,6,none⟩) (by show w.heap.size<w2.heap.size;omega)).trans x6',(hW.cell (p:=⟨w.heap.size,7,none⟩) (by show w.heap.size<w2.heap.size;omega)).trans x7',(hW.cell (p:=⟨w.heap.size,8,none⟩) (by show w.heap.size<w2.heap.size;omega)).trans x8',(hW.cell (p:=⟨w.heap.size,9,none⟩) (by show w.heap.size<w2.heap.size;omega)).trans x9',(hW.cell (p:=⟨w1.heap.size,0,none⟩) hs2).trans y0,(hW.cell (p:=⟨w1.heap.size,1,none⟩) hs2).trans y1,(hW.cell (p:=⟨w1.heap.size,2,none⟩) hs2).trans y2,(hW.cell (p:=⟨w1.heap.size,3,none⟩) hs2).trans y3,(hW.cell (p:=⟨w1.heap.size,4,none⟩) hs2).trans y4,(hW.cell (p:=⟨w1.heap.size,5,none⟩) hs2).trans y5,(hW.cell (p:=⟨w1.heap.size,6,none⟩) hs2).trans y6,(hW.cell (p:=⟨w1.heap.size,7,none⟩) hs2).trans y7,(hW.cell (p:=⟨w1.heap.size,8,none⟩) hs2).trans y8,(hW.cell (p:=⟨w1.heap.size,9,none⟩) hs2).trans y9,(hW.cell (p:=⟨w1.heap.size,10,none⟩) hs2).trans y10,K2.trans (hW.mono K2.size)⟩
 clear x0' x1' x2' x3' x4' x5' x6' x7' x8' x9' y0 y1 y2 y3 y4 y5 y6 y7 y8 y9 y10 K2
 have Z0:Below w2.heap.size w2 w2:=Below.refl _ _
 cases b1 with
 | false=>
  have hR2:Hid (R=false):=by have h:=hR.out;unfold Hid;simpa using h
  obtain ⟨x0,x1,x2,x3,x4,x5,x6,x7,x8,x9,y0,y1,y2,y3,y4,y5,y6,y7,y8,y9,y10,kB⟩:=FACT.out w2 Z0
  go_wp2
  go_ret
  rw [hR2.out]
  exact ⟨rfl,kB⟩
 | true=>
 obtain ⟨x0,x1,x2,x3,x4,x5,x6,x7,x8,x9,y0,y1,y2,y3,y4,y5,y6,y7,y8,y9,y10,kB⟩:=FACT.out w2 Z0
 go_wp2_with fail
 refine (c2.out _).mono ?_
 rintro r v1 ⟨rfl,hv1⟩
 have Z1:Below w2.heap.size w2 v1:=Z0.trans (hv1.mono Z0.size)
 clear hv1 c2 x0 x1 x2 x3 x4 x5 x6 x7 x8 x9 y0 y1 y2 y3 y4 y5 y6 y7 y8 y9 y10 kB
 cases b2 with
 | false=>
  have hR2:Hid (R=false):=by have h:=hR.out;unfold Hid;simpa using h
  obtain ⟨x0,x1,x2,x3,x4,x5,x6,x7,x8,x9,y0,y1,y2,y3,y4,y5,y6,y7,y8,y9,y10,kB⟩:=FACT.out v1 Z1
  go_wp2
  go_ret
  rw [hR2.out]
  exact ⟨rfl,kB⟩
 | true=>
 obtain ⟨x0,x1,x2,x3,x4,x5,x6,x7,x8,x9,y0,y1,y2,y3,y4,y5,y6,y7,y8,y9,y10,kB⟩:=FACT.out v1 Z1
 go_wp2_with fail
 refine (c3.out _).mono ?_
 rintro r v2 ⟨rfl,hv2⟩
 have Z2:Below w2.heap.size w2 v2:=Z1.trans (hv2.mono Z1.size)
 clear hv2 c3 x0 x1 x2 x3 x4 x5 x6 x7 x8 x9 y0 y1 y2 y3 y4 y5 y6 y7 y8 y9 y10 kB
 cases b3 with
 | false=>
  have hR2:Hid (R=false):=by have h:=hR.out;unfold Hid;simpa using h
  obtain ⟨x0,x1,x2,x3,x4,x5,x6,x7,x8,x9,y0,y1,y2,y3,y4,y5,y6,y7,y8,y9,y10,kB⟩:=FACT.out v2 Z2
  go_wp2
  go_ret
  rw [hR2.out]
  exact ⟨rfl,kB⟩
 | true=>
 obtain ⟨x0,x1,x2,x3,x4,x5,x6,x7,x8,x9,y0,y1,y2,y3,y4,y5,y6,y7,y8,y9,y10,kB⟩:=FACT.out v2 Z2
 go_wp2_with fail
 refine (c4.out _).mono ?_
 rintro r v3 ⟨rfl,hv3⟩
 have Z3:Below w2.heap.size w2 v3:=Z2.trans (hv3.mono Z2.size)
 clear hv3 c4 x0 x1 x2 x3 x4 x5 x6 x7 x8 x9 y0 y1 y2 y3 y4 y5 y6 y7 y8 y9 y10 kB
 cases b4 with
 | false=>
  have hR2:Hid (R=false):=by have h:=hR.out;unfold Hid;simpa using h
  obtain ⟨x0,x1,x2,x3,x4,x5,x6,x7,x8,x9,y0,y1,y2,y3,y4,y5,y6,y7,y8,y9,y10,kB⟩:=FACT.out v3 Z3
  go_wp2
  go_ret
  rw [hR2.out]
  exact ⟨rfl,kB⟩
 | true=>
 obtain ⟨x0,x1,x2,x3,x4,x5,x6,x7,x8,x9,y0,y1,y2,y3,y4,y5,y6,y7,y8,y9,y10,kB⟩:=FACT.out v3 Z3
 go_wp2_with fail
 refine (cA.out _ kB).mono ?_
 rintro r v4 ⟨rfl,rfl⟩
 have Z4:Below w2.heap.size w2 v4:=Z3
 clear cA x0 x1 x2 x3 x4 x5 x6 x7 x8 x9 y0 y1 y2 y3 y4 y5 y6 y7 y8 y9 y10 kB
 cases b5 with
 | false=>
  have hR2:Hid (R=false):=by have h:=hR.out;unfold Hid;simpa using h
  obtain ⟨x0,x1,x2,x3,x4,x5,x6,x7,x8,x9,y0,y1,y2,y3,y4,y5,y6,y7,y8,y9,y10,kB⟩:=FACT.out v4 Z4
  go_wp2
  go_ret
  rw [hR2.out]
  exact ⟨rfl,kB⟩
 | true=>
 obtain ⟨x0,x1,x2,x3,x4,x5,x6,x7,x8,x9,y0,y1,y2,y3,y4,y5,y6,y7,y8,y9,y10,kB⟩:=FACT.out v4 Z4
 go_wp2_with fail
 refine (c6.out _).mono ?_
 rintro r v5 ⟨rfl,rfl⟩
 have Z5:Below w2.heap.size w2 v5:=Z4
 clear c6 x0 x1 x2 x3 x4 x5 x6 x7 x8 x9 y0 y1 y2 y3 y4 y5 y6 y7 y8 y9 y10 kB
 cases b6 with
 | false=>
  have hR2:Hid (R=false):=by have h:=hR.out;unfold Hid;simpa using h
  obtain ⟨x0,x1,x2,x3,x4,x5,x6,x7,x8,x9,y0,y1,y2,y3,y4,y5,y6,y7,y8,y9,y10,kB⟩:=FACT.out v5 Z5
  go_wp2
  go_ret
  rw [hR2.out]
  exact ⟨rfl,kB⟩
 | true=>
 obtain ⟨x0,x1,x2,x3,x4,x5,x6,x7,x8,x9,y0,y1,y2,y3,y4,y5,y6,y7,y8,y9,y10,kB⟩:=FACT.out v5 Z5
 go_wp2_with fail
 refine (c7.out _).mono ?_
 rintro r v6 ⟨rfl,rfl⟩
 have Z6:Below w2.heap.size w2 v6:=Z5
 clear c7 x0 x1 x2 x3 x4 x5 x6 x7 x8 x9 y0 y1 y2 y3 y4 y5 y6 y7 y8 y9 y10 kB
 cases b7 with
 | false=>
  have hR2:Hid (R=false):=by have h:=hR.out;unfold Hid;simpa using h
  obtain ⟨x0,x1,x2,x3,x4,x5,x6,x7,x8,x9,y0,y1,y2,y3,y4,y5,y6,y7,y8,y9,y10,kB⟩:=FACT.out v6 Z6
  go_wp2
  go_ret
  rw [hR2.out]
  exact ⟨rfl,kB⟩
 | true=>
 obtain ⟨x0,x1,x2,x3,x4,x5,x6,x7,x8,x9,y0,y1,y2,y3,y4,y5,y6,y7,y8,y9,y10,kB⟩:=FACT.out v6 Z6
 go_wp2_with fail
 refine (c8.out _).mono ?_
 rintro r v7 ⟨rfl,hv7⟩
 have Z7:Below w2.heap.size w2 v7:=Z6.trans (hv7.mono Z6.size)
 clear hv7 c8 x0 x1 x2 x3 x4 x5 x6 x7 x8 x9 y0 y1 y2 y3 y4 y5 y6 y7 y8 y9 y10 kB
 have hR2:Hid (R=b8):=by have h:=hR.out;unfold Hid;simpa using h
 obtain ⟨x0,x1,x2,x3,x4,x5,x6,x7,x8,x9,y0,y1,y2,y3,y4,y5,y6,y7,y8,y9,y10,kB⟩:=FACT.out v7 Z7
 go_wp2
 go_ret
 rw [hR2.out]
 exact ⟨rfl,kB⟩
theorem inStA:(Tryz.prog.info? 9).map (fun i=>(i.zero,i.size,i.bytes))=some (some (.string ByteArray.empty),1,16):=by kernel_rfl
def OwnN (B:Nat) (v:Value) (vs:List ByteArray) (w:World):Prop:=w.ownsRow B 9 1 v vs.length (vs.map Value.string)
theorem own_belA {w w':World} {B e size n:Nat} {v:Value} {xs:List Value} (h:w.ownsRow B e size v n xs) (hb:Below w.heap.size w w'):w'.ownsRow B e size v n xs:=
 World.ownsRow.kept h (row:=none) ⟨hb.os,hb.tape,hb.output,hb.size,fun k hk _=>hb.block k hk⟩ (by cases hv:v.ownBlock with | none=>exact Or.inl rfl | some k=>exact Or.inr (by intro h;cases h))
theorem OwnN.bel {B:Nat} {v:Value} {L:List ByteArray} {w w':World} (h:OwnN B v L w) (hb:Below w.heap.size w w'):OwnN B v L w':=own_belA h hb
theorem OwnN.nil (B:Nat) (w:World):OwnN B (.slice none 0 0) [] w:=⟨rfl,.inl ⟨rfl,rfl⟩⟩
theorem OwnN.cap {B:Nat} {v:Value} {L:List ByteArray} {w:World} (h:OwnN B v L w):∃ p c,v=.slice p L.length c∧L.length≤c∧(L=[]∨∃ g,p=some ⟨g,0,none⟩∧B≤g∧g<w.heap.size∧∀ i (hi:i<L.length),w.cell? ⟨g,i,none⟩=some (.string L[i])):=by
 have h':w.ownsRow B 9 1 v L.length (L.map Value.string):=h
 obtain ⟨hl,⟨e,hn⟩ | ⟨g,cap,cur,rfl,hg1,hg2,hg3,hg4,hg5,hg6⟩⟩:=h
 ·exact ⟨none,0,by rw [e,hn],by omega,Or.inl (List.length_eq_zero_iff.1 hn)⟩
 ·refine ⟨_,_,rfl,by omega,Or.inr ⟨g,rfl,hg1,(Array.getElem?_eq_some_iff.1 hg2).1,fun i hi=> ?_⟩⟩
  rw [h'.cellAt _ (by omega)]
  simp [hi]
theorem OwnN.nms {B:Nat} {v:Value} {L:List ByteArray} {w:World} (h:OwnN B v L w) (hl:L.length≤9223372036854775807):NmsAt w v L:=by
 obtain ⟨p,c,e,hc,h | ⟨g,h1,h2,h3,h4⟩⟩:=h.cap
 ·exact ⟨hl,p,c,e,hc,Or.inl h⟩
 ·exact ⟨hl,p,c,e,hc,Or.inr ⟨g,0,h1,h3,fun i hi=>by rw [Nat.zero_add];exact h4 i hi⟩⟩
theorem without_any (V O:Value) (vs us:List ByteArray) (w:World) (hV:NmsAt w V vs) (hO:NmsAt w O us) (lv:vs.length≤1000000000):
  Calls Tryz.prog 167 #[V,O] w fun e w'=>∃ v,e=.returned v∧OwnN w.heap.size v (vs.filter fun s=> !Lib.containsS us s) w'∧Below w.heap.size w w':=by
 obtain ⟨i0,hi,hz0,hz1,hz2⟩:=info_parts inStA
 obtain ⟨p,c,rfl,hl,hc,HX0⟩:=hV.form
 have HX:Hid (∀ i (hi:i<vs.length),∃ b off,p=some ⟨b,off,none⟩∧b<w.heap.size∧w.cell? ⟨b,off+i,none⟩=some (.string vs[i])):=HX0
 have cK:Hid (∀ (W:World) (X:ByteArray),Below w.heap.size w W→Calls Tryz.prog 163 #[O,.string X] W fun e w'=>e=.returned (.bool (Lib.containsS us X))∧w'=W):=fun W X hW=>acont_any O us X W (hO.below hW)
 obtain ⟨p',c',rfl, -, -⟩:=hO.form
 clear HX0 hV hO
 obtain ⟨n,en⟩:∃ n:Nat,Hid (vs.length=n):=⟨_,rfl⟩
 rw [en.out] at lv hl hc ⊢
 generalize us.length=nu at*
 go_enter Tryz.func167,Tryz.ntmps167
 go_wp2
 go_loopw [5,10] (fun v5 v wr=>∃ (k:Nat) (L:List ByteArray),k≤n∧v=.int .i64 k∧L.length≤k∧Hid (L=(vs.take k).filter fun s=> !Lib.containsS us s)∧Below w.heap.size w wr∧Hid (OwnN w.heap.size v5 L wr)) (fun _ v _=>n - (intOf v).toNat)
 case atStart=>exact ⟨0,[],Nat.zero_le _,rfl,Nat.le_refl _,(by show _=_;simp),Below.refl _ _,OwnN.nil _ _⟩
 case round=>
  obtain ⟨k,L,hk,rfl,hLk,hF,hB,hO⟩:=hrel
  have hsz:=hB.size
  have HK:Hid (∀ q,u5.ownBlock=some q→w.heap.size≤q):=fun q hq=>(World.ownsRow.lt hO.out q hq).1
  by_cases hlt:k<n
  case neg=>
   have c2:¬ (k:Int)<n:=by omega
   have hF2:Hid (vs.filter (fun s=> !Lib.containsS us s)=L):=by
    have h:=hF.out
    rw [List.take_of_length_le (by have:=en.out;omega)] at h
    exact h.symm
   go_wp2
   go_ret
   rw [hF2.out]
   exact ⟨_,rfl,hO.out,hB⟩
  have hlt':(k:Int)<n:=by omega
  have kx:k<vs.length:=by have:=en.out;omega
  obtain ⟨b,off,rfl,hb,a0⟩:=HX.out k kx
  have a1:=(hB.cell (p:=⟨b,off+k,none⟩) hb).trans a0
  have hF2:Hid ((vs.take (k+1)).filter (fun s=> !Lib.containsS us s)=if Lib.containsS us vs[k]=true then L else L++[vs[k]]):=by
   have h:=hF.out
   rw [List.take_succ_eq_append_getElem kx,List.filter_append,← h]
   unfold Hid
   rcases Bool.eq_false_or_eq_true (Lib.containsS us vs[k]) with h5 | h5<;>simp [h5]
  have cK1:Hid (Calls Tryz.prog 163 #[.slice p' nu c',.string vs[k]] wr fun e w'=>e=.returned (.bool (Lib.containsS us vs[k]))∧w'=wr):=cK.out wr _ hB
  clear hF a0
  generalize vs[k]=X at*
  generalize Lib.containsS us X=CB at*
  go_wp2_with fail
  refine cK1.out.mono ?_
  rintro r w1 ⟨rfl,rfl⟩
  clear cK1
  cases CB with
  | true=>
   have hF3:Hid (L=(vs.take (k+1)).filter fun s=> !Lib.containsS us s):=by have h:=hF2.out;rw [if_pos rfl] at h;exact h.symm
   go_wp2
   exact ⟨⟨k+1,L,by omega,by go_num,by omega,hF3,hB,hO⟩,by simp [intOf];omega⟩
  | false=>
   have hF3:Hid (L++[X]=(vs.take (k+1)).filter fun s=> !Lib.containsS us s):=by have h:=hF2.out;rw [if_neg (by decide)] at h;exact h.symm
   clear hF2
   go_wp2_with (at_builtin;refine wpList_append_own _ rfl _ _ 22 rfl w.heap.size 9 i0 (.string ByteArray.empty) 1 16 Tryz.underlying22 hi hz0 hz1 hz2 rfl (by decide) _ _ _ rfl (World.ownsRow.alloc hO.out _) ⟨w1.heap.size,0,none⟩ 1 1 [.string X] rfl rfl ?cc1 ?cc2 ?cc3 ?cc4 ?cc5 ?_)
   case cc1=>(intro j u hj;rw [Addr.add_lit];(rcases j with _ | j)<;>simp at hj<;>subst hj<;>simp (maxDischargeDepth:=12) [go_sem])
   case cc2=>(intro u hu;simp at hu;subst hu;rfl)
   case cc3=>unfold maxLen;omega
   case cc4=>omega
   case cc5=>first | omega | (simp;omega)
   intro v' w3 h2 h3 _
   have O3:Hid (OwnN w.heap.size v' (L++[X]) w3):=by
    show w3.ownsRow _ _ _ _ _ _
    rw [List.length_append,List.map_append]
    exact h2
   have B3:Below w.heap.size w w3:=Below.grown (hB.alloc hsz _) h3 (by simp;omega) HK.out
   clear h2 h3 HK hO
   go_wp2
   exact ⟨⟨k+1,L++[X],by omega,by go_num,by simp;omega,hF3,B3,O3⟩,by simp [intOf];omega⟩
theorem run_append_noneA {P:Program} (w:World) (t ty e:TypeId) (i:TypeInfo) (ht:P.underlying t=some (.slice e)) (hi:P.info? e=some i) (base:Option Addr) (sLen sCap:Nat) (p:Option Addr) (c:Nat) (h:sLen≤sCap):
  (Builtin.append_ #[t,t] ty #[.slice base sLen sCap,.slice p 0 c]).run P w=.ok (.slice base sLen sCap) w:=by
 cases base<;>cases p<;>simp [Builtin.append_,run_underlying ht,sizeOf,typeInfo,hi,Builtin.lenOf,Builtin.firstCells,loadCells,loadCellsFrom,storeCells,h]
def SrcA (w:World) (size:Nat) (u:Value) (m:Nat) (news:List Value):Prop:=(∃ p c,u=.slice p 0 c∧m=0∧news=[])∨∃ ad c,u=.slice (some ad) m c∧news.length=m*size∧∀ j x,news[j]? =some x→w.cell? (ad.add j)=some x
theorem wpList_append_srcA {P:Program} {w:World} {ops:Array Oper} {rest:List Oper} {o:Oper} {a:Act} {Q:Exit→Act→World→Prop} (hgd:o.guard=none) (s x:Operand) (t:TypeId)
  (ho:o.op=.call {callee:=.builtin .append,args:=#[s,x],argTypes:=#[t,t]})
  (base:Nat) (e:TypeId) (i:TypeInfo) (z:Value) (size bytes:Nat) (ht:P.underlying t=some (.slice e)) (hi:P.info? e=some i) (hz:i.zero=some z)
  (hsize:i.size=size) (hby:i.bytes=bytes) (hzs:z.cells.size=size) (hsz:0<size)
  (v:Value) (n:Nat) (xs:List Value) (hs:a.eval s=v) (hown:w.ownsRow base e size v n xs)
  (u:Value) (m:Nat) (news:List Value) (hx:a.eval x=u) (hsrc:SrcA w size u m news) (h1:∀ u∈news,u.oneCell'=true)
  (h63:n+m≤maxLen) (hbytes:(n+m)*bytes≤140737488355328) (hbase:base≤w.heap.size)
  (h:∀ v' w',w'.ownsRow base e size v' (n+m) (xs++news)→w.grownBy w' v.ownBlock→(v'.ownBlock=v.ownBlock∨v'.ownBlock=some w.heap.size)→wpList P ops Q rest (a.put o.dst v') w'):
  wpList P ops Q (o::rest) a w:=by
 rcases hsrc with ⟨p,c,rfl,rfl,rfl⟩ | ⟨ad,c,rfl,hl,hnews⟩
 ·obtain ⟨b0,n0,c0,rfl,hle⟩:∃ b0 n0 c0,v=.slice b0 n0 c0∧n0≤c0:=by
   obtain ⟨-,⟨rfl, -⟩ | ⟨g,cap,cur,rfl, -, -,hn, -⟩⟩:=hown
   ·exact ⟨_,_,_,rfl,Nat.le_refl _⟩
   ·exact ⟨_,_,_,rfl,hn⟩
  exact Lib.wpList_append_run w hgd s x t t ho _ _ hs hx _ _ (run_append_noneA w t o.type e i ht hi b0 n0 c0 p c hle) (h _ _ (by simpa using hown) ⟨rfl,rfl,rfl,Nat.le_refl _,fun _ _ _=>rfl⟩ (Or.inl rfl))
 ·exact wpList_append_own_at w hgd s x t ho base e i z size bytes ht hi hz hsize hby hzs hsz v n xs hs hown ad m c news hx hl hnews h1 h63 hbytes hbase (fun v' w' a1 a2 _ a4=>h v' w' a1 a2 a4)
theorem srcA_nms {w:World} {u:Value} {xs:List ByteArray} (h:NmsAt w u xs):SrcA w 1 u xs.length (xs.map Value.string):=by
 obtain ⟨hl,p,c,rfl,hc,rfl | ⟨b,off,rfl,hb,hs⟩⟩:=h
 ·exact Or.inl ⟨p,c,rfl,rfl,rfl⟩
 ·refine Or.inr ⟨_,_,rfl,by simp,fun j x hj=> ?_⟩
  obtain ⟨h1,h2⟩:=List.getElem?_eq_some_iff.1 hj
  rw [List.length_map] at h1
  rw [List.getElem_map] at h2
  rw [← h2,Addr.add_lit]
  exact hs j h1
structure FQ where
 v:Value
 t:Value
 s:Value
 r:Value
def fcs (x:Fm×FQ):List Value:=[.int .i64 x.1.k,.string x.1.nm,.int .i64 x.1.op,x.2.v,x.2.t,.int .i64 x.1.lo,.int .i64 x.1.hi,.bool x.1.opn,x.2.s,x.2.r]
def flatF (ps:List (Fm×FQ)):List Value:=ps.flatMap fcs
theorem flatF_len (xs:List (Fm×FQ)):(flatF xs).length=xs.length*10:=by
 induction xs with
 | nil=>rfl
 | cons x xs ih=>simp only [flatF,List.flatMap_cons,List.length_append,List.length_cons] at ih ⊢;rw [ih];simp [fcs];omega
theorem flatF_append (xs ys:List (Fm×FQ)):flatF (xs++ys)=flatF xs++flatF ys:=by simp [flatF]
theorem flatF_get:∀ (xs:List (Fm×FQ)) (i j:Nat) (h:i<xs.length),j<10→(flatF xs)[i*10+j]? =(fcs xs[i])[j]?
 | x::xs,0,j,h,hj=>by
  simp only [flatF,List.flatMap_cons,Nat.zero_mul,Nat.zero_add,List.getElem_cons_zero]
  rw [List.getElem?_append_left (by simp [fcs];omega)]
 | x::xs,i+1,j,h,hj=>by
  have ih:=flatF_get xs i j (by simpa using h) hj
  simp only [flatF,List.flatMap_cons,List.getElem_cons_succ] at ih ⊢
  rw [List.getElem?_append_right (by simp [fcs];omega)]
  rw [← ih]
  congr 1
  simp [fcs]
  omega
def QAt (w:World) (x:Fm×FQ):Prop:=NmsAt w x.2.v x.1.vars∧TmsAt w x.2.t x.1.terms∧FmsAt w x.2.s x.1.subs∧RxsAt w x.2.r x.1.rgx
theorem QAt.below {w w':World} {x:Fm×FQ} (h:QAt w x) (hb:Below w.heap.size w w'):QAt w' x:=⟨h.1.below hb,h.2.1.bel hb,h.2.2.1.bel hb,h.2.2.2.bel hb⟩
theorem NmsAt.one {w:World} {u:Value} {xs:List ByteArray} (h:NmsAt w u xs):u.oneCell'=true:=by obtain ⟨-,p,c,rfl, -⟩:=h;rfl
theorem TmsAt.one {w:World} {u:Value} {xs:List Tm} (h:TmsAt w u xs):u.oneCell'=true:=by obtain ⟨p,c,rfl, -⟩:=h.form;rfl
theorem FmsAt.one {w:World} {u:Value} {xs:List Fm} (h:FmsAt w u xs):u.oneCell'=true:=by obtain ⟨p,c,rfl, -⟩:=h.form;rfl
theorem RxsAt.one {w:World} {u:Value} {xs:List Rx} (h:RxsAt w u xs):u.oneCell'=true:=by obtain ⟨p,c,rfl, -⟩:=h.form;rfl
theorem flatF_one {w:World} {ps:List (Fm×FQ)} (h:∀ x∈ps,QAt w x):∀ u∈flatF ps,u.oneCell'=true:=by
 intro u hu
 simp only [flatF,List.mem_flatMap] at hu
 obtain ⟨x,hx,hu⟩:=hu
 obtain ⟨h1,h2,h3,h4⟩:=h x hx
 simp only [fcs,List.mem_cons,List.not_mem_nil,or_false] at hu
 rcases hu with rfl | rfl | rfl | rfl | rfl | rfl | rfl | rfl | rfl | rfl
 ·rfl
 ·rfl
 ·rfl
 ·exact h1.one
 ·exact h2.one
 ·rfl
 ·rfl
 ·rfl
 ·exact h3.one
 ·exact h4.one
theorem srcF {w:World} {u:Value} {fs:List Fm} (h:FmsAt w u fs):∃ ps:List (Fm×FQ),ps.map Prod.fst=fs∧(∀ x∈ps,QAt w x)∧∀ W,Below w.heap.size w W→SrcA W 10 u fs.length (flatF ps):=by
 cases h with
 | nil=>exact ⟨[],rfl,fun x hx=>by simp at hx,fun W _=>Or.inl ⟨_,_,rfl,rfl,rfl⟩⟩
 | @row b off c fs uv ut us ur hl hc hB cells vars terms sub rgx=>
  refine ⟨List.ofFn fun i:Fin fs.length=>(fs[i.1],⟨uv i.1,ut i.1,us i.1,ur i.1⟩), ?_,fun x hx=> ?_,fun W hb=>Or.inr ⟨_,_,rfl,by rw [flatF_len,List.length_ofFn],fun j x hj=> ?_⟩⟩
  ·apply List.ext_getElem
   ·simp
   ·intro i h1 h2
    simp
  ·rw [List.mem_ofFn] at hx
   obtain ⟨i,rfl⟩:=hx
   exact ⟨vars i.1 i.2,terms i.1 i.2,sub i.1 i.2,rgx i.1 i.2⟩
  ·obtain ⟨hlt, -⟩:=List.getElem?_eq_some_iff.1 hj
   rw [flatF_len,List.length_ofFn] at hlt
   have hi:j / 10<fs.length:=by omega
   have g:=flatF_get (List.ofFn fun i:Fin fs.length=>(fs[i.1],(⟨uv i.1,ut i.1,us i.1,ur i.1⟩:FQ))) (j / 10) (j % 10) (by rw [List.length_ofFn];exact hi) (by omega)
   rw [show j / 10*10+j % 10=j by omega,hj,List.getElem_ofFn] at g
   obtain ⟨c0,c1,c2,c3,c4,c5,c6,c7,c8,c9⟩:=(cells (j / 10) hi).below hb hB
   have ej:off+j=off+j / 10*10+j % 10:=by omega
   rw [Addr.add_lit,ej]
   have hr:j % 10<10:=by omega
   generalize j % 10=r at g hr ⊢
   rcases r with _ | _ | _ | _ | _ | _ | _ | _ | _ | _ | r
   all_goals first | omega | (simp only [fcs,List.getElem?_cons_zero,List.getElem?_cons_succ,Option.some.injEq] at g;subst g;assumption)
theorem inFA:(Tryz.prog.info? 29).map (fun i=>(i.zero,i.size,i.bytes))=some (some (.agg #[.int .i64 0,.string ByteArray.empty,.int .i64 0,.slice none 0 0,.slice none 0 0,.int .i64 0,.int .i64 0,.bool false,.slice none 0 0,.slice none 0 0]),10,152):=by kernel_rfl
def OwnF (w0:World) (B:Nat) (v:Value) (fs:List Fm) (w:World):Prop:=∃ ps:List (Fm×FQ),ps.map Prod.fst=fs∧(∀ x∈ps,QAt w0 x)∧w.ownsRow B 29 10 v fs.length (flatF ps)
theorem OwnF.nil (w0:World) (B:Nat) (w:World):OwnF w0 B (.slice none 0 0) [] w:=⟨[],rfl,fun x hx=>by simp at hx,rfl,.inl ⟨rfl,rfl⟩⟩
theorem OwnF.bel {w0:World} {B:Nat} {v:Value} {L:List Fm} {w w':World} (h:OwnF w0 B v L w) (hb:Below w.heap.size w w'):OwnF w0 B v L w':=by
 obtain ⟨ps,h1,h2,h3⟩:=h
 exact ⟨ps,h1,h2,own_belA h3 hb⟩
theorem OwnF.src {w0:World} {B:Nat} {v:Value} {L:List Fm} {w:World} (h:OwnF w0 B v L w):∃ ps:List (Fm×FQ),ps.map Prod.fst=L∧(∀ x∈ps,QAt w0 x)∧SrcA w 10 v L.length (flatF ps):=by
 obtain ⟨ps,h1,h2,h3⟩:=h
 have h':=h3
 have hlen:ps.length=L.length:=by rw [← h1,List.length_map]
 refine ⟨ps,h1,h2, ?_⟩
 obtain ⟨hl2,⟨e,hn⟩ | ⟨g,cap,cur,rfl,hg1,hg2,hg3,hg4,hg5,hg6⟩⟩:=h3
 ·refine Or.inl ⟨none,0,e,hn, ?_⟩
  apply List.eq_nil_of_length_eq_zero
  rw [flatF_len]
  omega
 ·refine Or.inr ⟨_,_,rfl,by rw [flatF_len,hlen],fun j x hj=> ?_⟩
  obtain ⟨hlt, -⟩:=List.getElem?_eq_some_iff.1 hj
  rw [flatF_len] at hlt
  rw [Addr.add_lit,Nat.zero_add,h'.cellAt _ (by omega)]
  exact hj
theorem OwnF.app {w0:World} {B:Nat} {v:Value} {ps qs:List (Fm×FQ)} {L M:List Fm} {w:World} (h1:ps.map Prod.fst=L) (h2:∀ x∈ps,QAt w0 x) (g1:qs.map Prod.fst=M) (g2:∀ x∈qs,QAt w0 x) (h:w.ownsRow B 29 10 v (L.length+M.length) (flatF ps++flatF qs)):OwnF w0 B v (L++M) w:=by
 refine ⟨ps++qs,by rw [List.map_append,h1,g1],fun x hx=> ?_, ?_⟩
 ·rcases List.mem_append.1 hx with hx | hx
  ·exact h2 x hx
  ·exact g2 x hx
 ·rw [flatF_append,List.length_append]
  exact h
theorem OwnF.fms {w0:World} {B:Nat} {v:Value} {L:List Fm} {w:World} (h:OwnF w0 B v L w) (hb:Below w0.heap.size w0 w) (hl:L.length≤9223372036854775807):FmsAt w v L:=by
 obtain ⟨ps,h1,h2,h3⟩:=h
 have h':=h3
 have hlen:ps.length=L.length:=by rw [← h1,List.length_map]
 obtain ⟨hl2,⟨e,hn⟩ | ⟨g,cap,cur,rfl,hg1,hg2,hg3,hg4,hg5,hg6⟩⟩:=h3
 ·rw [e,List.length_eq_zero_iff.1 hn]
  exact .nil
 ·have hc:∀ i (hi:i<L.length) (j:Nat),j<10→w.cell? ⟨g,0+i*10+j,none⟩=(fcs (ps[i]'(by omega)))[j]?:=fun i hi j hj=>by
   rw [show 0+i*10+j=i*10+j by omega,h'.cellAt _ (by omega),flatF_get ps i j (by omega) hj]
  have he:∀ i (hi:i<L.length),(ps[i]'(by omega)).1=L[i]:=fun i hi=>by
   have h5:(ps.map Prod.fst)[i]? =L[i]?:=by rw [h1]
   rw [List.getElem?_map,List.getElem?_eq_getElem (show i<ps.length by omega),List.getElem?_eq_getElem hi] at h5
   simpa using h5
  have hq:∀ i (hi:i<L.length),QAt w (ps[i]'(by omega)):=fun i hi=>(h2 _ (List.getElem_mem _)).below hb
  refine .row (fun i=>if h:i<ps.length then ps[i].2.v else .slice none 0 0) (fun i=>if h:i<ps.length then ps[i].2.t else .slice none 0 0) (fun i=>if h:i<ps.length then ps[i].2.s else .slice none 0 0) (fun i=>if h:i<ps.length then ps[i].2.r else .slice none 0 0) hl hg3 (Array.getElem?_eq_some_iff.1 hg2).1 (fun i hi=> ?_) (fun i hi=> ?_) (fun i hi=> ?_) (fun i hi=> ?_) (fun i hi=> ?_)
  ·have hx:=hc i hi
   have e:=he i hi
   simp only [dif_pos (show i<ps.length by omega)]
   rw [← e]
   exact ⟨hx 0 (by omega),hx 1 (by omega),hx 2 (by omega),hx 3 (by omega),hx 4 (by omega),hx 5 (by omega),hx 6 (by omega),hx 7 (by omega),hx 8 (by omega),hx 9 (by omega)⟩
  ·simp only [dif_pos (show i<ps.length by omega)];rw [← he i hi];exact (hq i hi).1
  ·simp only [dif_pos (show i<ps.length by omega)];rw [← he i hi];exact (hq i hi).2.1
  ·simp only [dif_pos (show i<ps.length by omega)];rw [← he i hi];exact (hq i hi).2.2.1
  ·simp only [dif_pos (show i<ps.length by omega)];rw [← he i hi];exact (hq i hi).2.2.2
end Go.Proofs.YticnfeolbfmgfaaGreatDoor
