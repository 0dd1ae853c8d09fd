/- What staticReaches_holds needs besides. -/
import Derived.Test.YthodedagbbifbaaGreatZ08
set_option maxRecDepth 100000
set_option maxHeartbeats 32000000
namespace Go.Proofs.YthodedagbbifbaaGreat
open Go.RowKit LX Go.Shelf
set_option linter.unusedVariables false
theorem far_one {p:Pt} (h:0≤p.about.reach):farP [p]=p.about.reach:=by
 show max 0 p.about.reach=_
 omega
theorem rch_all {f:Fm} (h:chkF f=0):0≤(prtF f []).about.reach∧(prtF f []).about.reach≤281474976710656:=by
 obtain ⟨hw,hn, -, -⟩:=(chk_iff f).1 h
 have:=(rch_bd (nodF f)).1 f [] 0 (Nat.le_refl _) hw (Int.le_refl _) (fun x hx=>by cases hx)
 omega
def oneF (k:Int) (vs:List ByteArray) (lo hi:Int) (o:Bool) (f:Fm):Fm:=.mk k ⟨#[]⟩ 0 vs [] lo hi o [f] []
theorem prt_oneF {k:Int} {vs:List ByteArray} {lo hi:Int} {o:Bool} {f:Fm} (h20:k≠20) (h21:k≠21):prtF (oneF k vs lo hi o f) []=mkP [] (oneF k vs lo hi o f) [prtF f []]:=by
 rw [prtF_eq,if_neg (show (oneF k vs lo hi o f).k≠20 from h20),if_neg (show (oneF k vs lo hi o f).k≠21 from h21)]
 show mkP [] (oneF k vs lo hi o f) (prtRs [] []++prtFs [f] [])=_
 rw [prtRs,prtFs,prtFs]
 rfl
theorem acc_of {f:Fm} (h:stE f=0):chkF f=0∧(prtF f []).about.acc=true:=by
 unfold stE at h
 by_cases hc:chkF f=0
 ·rw [if_pos hc] at h
  cases ha:(prtF f []).about.acc with
  | true=>exact ⟨hc,rfl⟩
  | false=>rw [ha] at h;simp at h
 ·rw [if_neg hc] at h;exact absurd h hc
theorem stR_of {f:Fm} (h:stE f=0):stR f=(prtF f []).about.reach:=by unfold stR;rw [if_pos h]
theorem accP_one (p:Pt):accP [p]=p.about.acc:=by unfold accP;simp
theorem reach_law {k:Int} {lo hi:Int} {o:Bool} {f:Fm} (hk:k=11∨k=12∨k=13∨k=14) (hf:stE f=0) (hc:chkF (oneF k [] lo hi o f)=0):
  stE (oneF k [] lo hi o f)=(if (k=12∨k=14)∧o=true then 100 else 0)∧(¬ ((k=12∨k=14)∧o=true)→stR (oneF k [] lo hi o f)=(if k=12∨k=14 then stR f+hi else stR f)):=by
 obtain ⟨hcf,hac⟩:=acc_of hf
 have hr:=(rch_all hcf).1
 have hp:=prt_oneF (k:=k) (vs:=[]) (lo:=lo) (hi:=hi) (o:=o) (f:=f) (by omega) (by omega)
 have hab:=mkP_about [] (oneF k [] lo hi o f) [prtF f []]
 rw [← hp] at hab
 have e1:isAccP (oneF k [] lo hi o f) [prtF f []]=(if k=12∨k=14 then !o else true):=by
  unfold isAccP
  have hkk:(oneF k [] lo hi o f).k=k:=rfl
  rw [hkk,if_neg (by omega),if_neg (by omega),if_neg (by omega),if_neg (by omega),accP_one,hac,Bool.true_and]
  unfold fitP
  rw [hkk,if_neg (by omega),if_neg (by omega),if_neg (by omega),if_neg (by omega),if_neg (by omega),if_neg (by omega)]
  by_cases h:k=12∨k=14
  ·rw [if_pos (by omega),if_pos h];rfl
  ·rw [if_neg (by omega),if_neg (by omega),if_neg (by omega),if_neg h]
 have e2:rchIn [] (oneF k [] lo hi o f) [prtF f []]=(if k=12∨k=14 then hi+(prtF f []).about.reach else (prtF f []).about.reach):=by
  unfold rchIn
  have hkk:(oneF k [] lo hi o f).k=k:=rfl
  rw [hkk,if_neg (by omega),far_one hr]
  by_cases h:k=12∨k=14
  ·rw [if_pos (by omega),if_pos h];rfl
  ·rw [if_neg (by omega),if_neg (by omega),if_neg h]
 have e3:stE (oneF k [] lo hi o f)=(if (k=12∨k=14)∧o=true then 100 else 0):=by
  unfold stE
  rw [if_pos hc,hab]
  show (if isAccP (oneF k [] lo hi o f) [prtF f []]=true then (0:Int) else 100)=_
  rw [e1]
  by_cases h:k=12∨k=14
  ·rw [if_pos h]
   cases o<;>simp [h]
  ·rw [if_neg h]
   simp [h]
 refine ⟨e3,fun hn=> ?_⟩
 have e4:stE (oneF k [] lo hi o f)=0:=by rw [e3,if_neg hn]
 rw [stR_of e4,hab,stR_of hf]
 show rchIn [] (oneF k [] lo hi o f) [prtF f []]=_
 rw [e2]
 by_cases h:k=12∨k=14
 ·rw [if_pos h,if_pos h];omega
 ·rw [if_neg h,if_neg h]
theorem wrap_inS {x:Int} (h1: -9223372036854775808≤x) (h2:x≤9223372036854775807):IntKind.i64.wrap x=x:=by
 simp [IntKind.wrap,IntKind.bits,IntKind.signed]
 omega
theorem hi_of {k lo hi:Int} {o:Bool} {f:Fm} (hk:k=12∨k=14) (h:chkF (oneF k [] lo hi o f)=0):0≤hi∧hi≤1099511627776:=by
 obtain ⟨h1, -, -, -⟩:=(chk_iff _).1 h
 rw [wfF_eq] at h1
 exact hi_rng (f:=oneF k [] lo hi o f) h1.1 (by show k=12∨k=14∨k=16∨k=18;omega)
theorem sr_bd (f:Fm):0≤stR f∧stR f≤281474976710656:=by
 unfold stR
 by_cases h:stE f=0
 ·rw [if_pos h];exact rch_all (acc_of h).1
 ·rw [if_neg h];decide
theorem sreaches_any (f:Fm) (q:FQ) (lo hi:Int) (o:Bool) (w:World) (hq:QAt w (f,q)):
  Calls Tryz.prog 6 #[.agg #[.int .i64 f.k,.string f.nm,.int .i64 f.op,q.v,q.t,.int .i64 f.lo,.int .i64 f.hi,.bool f.opn,q.s,q.r],.agg #[.int .i64 lo,.int .i64 hi,.bool o]] w fun e w'=>e=.returned (.bool true)∧Below w.heap.size w w':=by
 have HF:Hid (∀ W:World,Below w.heap.size w W→QAt W (f,q)):=fun W hW=>hq.below hW
 have cR:Hid (∀ W:World,Below w.heap.size w W→Calls Tryz.prog 10 #[.agg #[.int .i64 f.k,.string f.nm,.int .i64 f.op,q.v,q.t,.int .i64 f.lo,.int .i64 f.hi,.bool f.opn,q.s,q.r]] W fun e w'=>e=.returned (.tuple #[.int .i64 (stR f),.int .i64 (stE f)])∧Below W.heap.size W w'):=fun W hW=>reach_st f q W (hq.below hW)
 obtain ⟨uv,ut,us,ur⟩:=q
 have hq2:=sfm_forms hq
 dsimp only at hq2
 obtain ⟨⟨pv1,cv1,rfl⟩,⟨pt1,ct1,rfl⟩,⟨ps1,cs1,rfl⟩,⟨pr1,cr1,rfl⟩⟩:=hq2
 clear hq
 dsimp only at cR ⊢
 have hSR:=sr_bd f
 obtain ⟨SE,eSE⟩:∃ SE,Hid (stE f=SE):=⟨_,rfl⟩
 obtain ⟨SR,eSR⟩:∃ SR,Hid (stR f=SR):=⟨_,rfl⟩
 rw [eSR.out] at hSR
 rw [eSE.out,eSR.out] at cR
 have HSR:Hid (0≤SR∧SR≤281474976710656):=hSR
 clear hSR
 go_enter Tryz.func6,Tryz.ntmps6
 go_wp2_with fail
 refine (live10_any _).mono ?_
 rintro e w1 ⟨rfl,hb1⟩
 have K1:Below w.heap.size w w1:=Below.trans (by go_grown) (hb1.mono (by simp;omega))
 have X1:Hid (w1.heap[w.heap.size]? =_):=(hb1.block w.heap.size (by simp;omega)).trans (blk2a w _ _)
 have Y1:Hid (w1.heap[w.heap.size+1]? =_):=(hb1.block (w.heap.size+1) (by simp)).trans (blk2b w _ _)
 clear hb1
 have x0:w1.cell? ⟨w.heap.size,0,none⟩=some (.int .i64 f.k):=by rw [Lib.cell_of_heap X1.out];rfl
 have x1:w1.cell? ⟨w.heap.size,1,none⟩=some (.string f.nm):=by rw [Lib.cell_of_heap X1.out];rfl
 have x2:w1.cell? ⟨w.heap.size,2,none⟩=some (.int .i64 f.op):=by rw [Lib.cell_of_heap X1.out];rfl
 have x3:w1.cell? ⟨w.heap.size,3,none⟩=some (.slice pv1 f.vars.length cv1):=by rw [Lib.cell_of_heap X1.out];rfl
 have x4:w1.cell? ⟨w.heap.size,4,none⟩=some (.slice pt1 f.terms.length ct1):=by rw [Lib.cell_of_heap X1.out];rfl
 have x5:w1.cell? ⟨w.heap.size,5,none⟩=some (.int .i64 f.lo):=by rw [Lib.cell_of_heap X1.out];rfl
 have x6:w1.cell? ⟨w.heap.size,6,none⟩=some (.int .i64 f.hi):=by rw [Lib.cell_of_heap X1.out];rfl
 have x7:w1.cell? ⟨w.heap.size,7,none⟩=some (.bool f.opn):=by rw [Lib.cell_of_heap X1.out];rfl
 have x8:w1.cell? ⟨w.heap.size,8,none⟩=some (.slice ps1 f.subs.length cs1):=by rw [Lib.cell_of_heap X1.out];rfl
 have x9:w1.cell? ⟨w.heap.size,9,none⟩=some (.slice pr1 f.rgx.length cr1):=by rw [Lib.cell_of_heap X1.out];rfl
 go_wp2_with fail
 refine (cR.out w1 K1).mono ?_
 rintro e w2 ⟨rfl,kb⟩
 have K2:Below w.heap.size w w2:=K1.trans (kb.mono K1.size)
 have X2:Hid (_):=blkC X1.out kb
 have Y2:Hid (_):=blkC Y1.out kb
 clear kb cR K1 X1 Y1 x0 x1 x2 x3 x4 x5 x6 x7 x8 x9
 by_cases hE:SE=0
 case neg=>
  have hne:(SE != 0)=true:=by simp [hE]
  clear HF X2 Y2 HSR eSE eSR
  go_wp2
  go_ret
  exact ⟨rfl,K2⟩
 case pos=>
 subst hE
 have hlaw:Hid (∀ k:Int,(k=11∨k=12∨k=13∨k=14)→chkF (oneF k [] lo hi o f)=0→stE (oneF k [] lo hi o f)=(if (k=12∨k=14)∧o=true then 100 else 0)∧(¬ ((k=12∨k=14)∧o=true)→stR (oneF k [] lo hi o f)=(if k=12∨k=14 then SR+hi else SR))):=fun k hk hc=>by
  have h:=reach_law hk eSE.out hc
  rw [eSR.out] at h
  exact h
 have z2:=K2.size
 clear eSE eSR
 go_wp2
 go_loopw [25] (fun v25 wr=>∃ k:Nat,k≤4∧v25=.int .i64 k∧Below w2.heap.size w2 wr∧Hid (wr.heap[w2.heap.size]? =some (.cells #[.int .i64 11,.int .i64 13,.int .i64 12,.int .i64 14] 3 (0,0)))) (fun v25 _=>4 - (intOf v25).toNat)
 case atStart=>exact ⟨0,by omega,rfl,by go_grown,heap_allocA w2 _⟩
 case round=>
  obtain ⟨k,hk,rfl,hB,hRow⟩:=hrel
  have zr:=hB.size
  have lrow:=blkLt hRow.out
  have Xr:Hid (_):=blkC X2.out hB
  have Yr:Hid (_):=blkC Y2.out hB
  have Kr:Below w.heap.size w wr:=K2.trans (hB.mono z2)
  by_cases hlt:k<4
  case neg=>
   have e4:k=4:=by omega
   subst e4
   clear hlaw HF Xr Yr HSR
   go_wp2
   go_ret
   exact ⟨rfl,Kr⟩
  case pos=>
  obtain rfl | rfl | rfl | rfl:k=0∨k=1∨k=2∨k=3:=by omega
  ·have hrw:wr.cell? ⟨w2.heap.size,0,none⟩=some (.int .i64 11):=by rw [Lib.cell_of_heap hRow.out];rfl
   have x0:wr.cell? ⟨w.heap.size,0,none⟩=some (.int .i64 f.k):=by rw [Lib.cell_of_heap Xr.out];rfl
   have x1:wr.cell? ⟨w.heap.size,1,none⟩=some (.string f.nm):=by rw [Lib.cell_of_heap Xr.out];rfl
   have x2:wr.cell? ⟨w.heap.size,2,none⟩=some (.int .i64 f.op):=by rw [Lib.cell_of_heap Xr.out];rfl
   have x3:wr.cell? ⟨w.heap.size,3,none⟩=some (.slice pv1 f.vars.length cv1):=by rw [Lib.cell_of_heap Xr.out];rfl
   have x4:wr.cell? ⟨w.heap.size,4,none⟩=some (.slice pt1 f.terms.length ct1):=by rw [Lib.cell_of_heap Xr.out];rfl
   have x5:wr.cell? ⟨w.heap.size,5,none⟩=some (.int .i64 f.lo):=by rw [Lib.cell_of_heap Xr.out];rfl
   have x6:wr.cell? ⟨w.heap.size,6,none⟩=some (.int .i64 f.hi):=by rw [Lib.cell_of_heap Xr.out];rfl
   have x7:wr.cell? ⟨w.heap.size,7,none⟩=some (.bool f.opn):=by rw [Lib.cell_of_heap Xr.out];rfl
   have x8:wr.cell? ⟨w.heap.size,8,none⟩=some (.slice ps1 f.subs.length cs1):=by rw [Lib.cell_of_heap Xr.out];rfl
   have x9:wr.cell? ⟨w.heap.size,9,none⟩=some (.slice pr1 f.rgx.length cr1):=by rw [Lib.cell_of_heap Xr.out];rfl
   have y0:wr.cell? ⟨w.heap.size+1,0,none⟩=some (.int .i64 lo):=by rw [Lib.cell_of_heap Yr.out];rfl
   have y1:wr.cell? ⟨w.heap.size+1,1,none⟩=some (.int .i64 hi):=by rw [Lib.cell_of_heap Yr.out];rfl
   have y2:wr.cell? ⟨w.heap.size+1,2,none⟩=some (.bool o):=by rw [Lib.cell_of_heap Yr.out];rfl
   go_upto_region 9 with fail
   refine wpS_world ?_
   intro W0 hW0
   have kA:Below wr.heap.size wr W0:=by rw [hW0];go_grown
   have Z0:Hid (W0.heap[wr.heap.size+1]? =some (.cells #[.int .i64 11,.string ⟨#[]⟩,.int .i64 0,.slice none 0 0,.slice none 0 0,.int .i64 lo,.int .i64 hi,.bool o,.slice (some ⟨wr.heap.size,0,none⟩) 1 1,.slice none 0 0] 29 (0,0))):=by rw [hW0];exact blk2b wr _ _
   have S0:Hid (W0.heap[wr.heap.size]? =some (.cells #[.int .i64 f.k,.string f.nm,.int .i64 f.op,.slice pv1 f.vars.length cv1,.slice pt1 f.terms.length ct1,.int .i64 f.lo,.int .i64 f.hi,.bool f.opn,.slice ps1 f.subs.length cs1,.slice pr1 f.rgx.length cr1] 29 (0,0))):=by rw [hW0];exact blk2a wr _ _
   clear hW0 hrw x0 x1 x2 x3 x4 x5 x6 x7 x8 x9 y0 y1 y2
   have K0:Below w.heap.size w W0:=Kr.trans (kA.mono Kr.size)
   have Y0:Hid (_):=blkC Yr.out kA
   have R0:Hid (_):=blkC hRow.out kA
   have hA:QAt W0 (oneF 11 [] lo hi o f,⟨.slice none 0 0,.slice none 0 0,.slice (some ⟨wr.heap.size,0,none⟩) 1 1,.slice none 0 0⟩):=⟨nms_nil _,.nil,fms_one (f:=f) (blkLt S0.out) (HF.out W0 K0) (by refine ⟨?_, ?_, ?_, ?_, ?_, ?_, ?_, ?_, ?_, ?_⟩<;>(rw [Lib.cell_of_heap S0.out];rfl)),.nil⟩
   have cK:Hid (∀ W:World,Below W0.heap.size W0 W→Calls Tryz.prog 18 #[.agg #[.int .i64 11,.string ⟨#[]⟩,.int .i64 0,.slice none 0 0,.slice none 0 0,.int .i64 lo,.int .i64 hi,.bool o,.slice (some ⟨wr.heap.size,0,none⟩) 1 1,.slice none 0 0]] W fun e w'=>e=.returned (.int .i64 (chkF (oneF 11 [] lo hi o f)))∧Below W.heap.size W w'):=fun W hW=>rcheck_fm (oneF 11 [] lo hi o f) ⟨.slice none 0 0,.slice none 0 0,.slice (some ⟨wr.heap.size,0,none⟩) 1 1,.slice none 0 0⟩ W (hA.below hW)
   have cR:Hid (∀ W:World,Below W0.heap.size W0 W→Calls Tryz.prog 10 #[.agg #[.int .i64 11,.string ⟨#[]⟩,.int .i64 0,.slice none 0 0,.slice none 0 0,.int .i64 lo,.int .i64 hi,.bool o,.slice (some ⟨wr.heap.size,0,none⟩) 1 1,.slice none 0 0]] W fun e w'=>e=.returned (.tuple #[.int .i64 (stR (oneF 11 [] lo hi o f)),.int .i64 (stE (oneF 11 [] lo hi o f))])∧Below W.heap.size W w'):=fun W hW=>reach_st (oneF 11 [] lo hi o f) ⟨.slice none 0 0,.slice none 0 0,.slice (some ⟨wr.heap.size,0,none⟩) 1 1,.slice none 0 0⟩ W (hA.below hW)
   have hl:=hlaw.out 11 (by omega)
   have hi9:Hid (chkF (oneF 11 [] lo hi o f)=0→(11=12∨11=14)→0≤hi∧hi≤1099511627776):=fun h h2=>hi_of (k:=11) (by omega) h
   obtain ⟨C,eC⟩:∃ C,Hid (chkF (oneF 11 [] lo hi o f)=C):=⟨_,rfl⟩
   obtain ⟨SE,eE⟩:∃ SE,Hid (stE (oneF 11 [] lo hi o f)=SE):=⟨_,rfl⟩
   obtain ⟨SG,eG⟩:∃ SG,Hid (stR (oneF 11 [] lo hi o f)=SG):=⟨_,rfl⟩
   rw [eC.out] at cK hl hi9
   rw [eE.out,eG.out] at cR hl
   have HL:Hid (C=0→SE=(if ((11:Int)=12∨(11:Int)=14)∧o=true then 100 else 0)∧(¬ (((11:Int)=12∨(11:Int)=14)∧o=true)→SG=(if (11:Int)=12∨(11:Int)=14 then SR+hi else SR))):=hl
   clear hl hA S0 Xr hlaw HF eC eE eG
   have hz:=Z0.out
   have z0:W0.cell? ⟨wr.heap.size+1,0,none⟩=some (.int .i64 11):=by rw [Lib.cell_of_heap hz];rfl
   have z1:W0.cell? ⟨wr.heap.size+1,1,none⟩=some (.string ⟨#[]⟩):=by rw [Lib.cell_of_heap hz];rfl
   have z2:W0.cell? ⟨wr.heap.size+1,2,none⟩=some (.int .i64 0):=by rw [Lib.cell_of_heap hz];rfl
   have z3:W0.cell? ⟨wr.heap.size+1,3,none⟩=some (.slice none 0 0):=by rw [Lib.cell_of_heap hz];rfl
   have z4:W0.cell? ⟨wr.heap.size+1,4,none⟩=some (.slice none 0 0):=by rw [Lib.cell_of_heap hz];rfl
   have z5:W0.cell? ⟨wr.heap.size+1,5,none⟩=some (.int .i64 lo):=by rw [Lib.cell_of_heap hz];rfl
   have z6:W0.cell? ⟨wr.heap.size+1,6,none⟩=some (.int .i64 hi):=by rw [Lib.cell_of_heap hz];rfl
   have z7:W0.cell? ⟨wr.heap.size+1,7,none⟩=some (.bool o):=by rw [Lib.cell_of_heap hz];rfl
   have z8:W0.cell? ⟨wr.heap.size+1,8,none⟩=some (.slice (some ⟨wr.heap.size,0,none⟩) 1 1):=by rw [Lib.cell_of_heap hz];rfl
   have z9:W0.cell? ⟨wr.heap.size+1,9,none⟩=some (.slice none 0 0):=by rw [Lib.cell_of_heap hz];rfl
   go_wp2_with fail
   refine (cK.out W0 (Below.refl _ _)).mono ?_
   rintro e w4 ⟨rfl,kB⟩
   have Z4:Hid (_):=blkC hz kB
   have Y4:Hid (_):=blkC Y0.out kB
   have R4:Hid (_):=blkC R0.out kB
   have B4:Below w2.heap.size w2 w4:=(hB.trans (kA.mono hB.size)).trans (kB.mono (by have:=kA.size;omega))
   clear Z0 hz cK Y0 R0 z0 z1 z2 z3 z4 z5 z6 z7 z8 z9
   by_cases hc:C=0
   case neg=>
    have hne2:(C != 0)=true:=by simp [hc]
    clear HL cR Z4 Y4 HSR hi9 Yr
    go_wp2
    exact ⟨⟨1,by omega,by go_num,B4,R4⟩,by simp [intOf]⟩
   case pos=>
   subst hc
   obtain ⟨h1,h2⟩:=HL.out rfl
   have h9:=hi9.out rfl
   clear HL hi9
   have z0:w4.cell? ⟨wr.heap.size+1,0,none⟩=some (.int .i64 11):=by rw [Lib.cell_of_heap Z4.out];rfl
   have z1:w4.cell? ⟨wr.heap.size+1,1,none⟩=some (.string ⟨#[]⟩):=by rw [Lib.cell_of_heap Z4.out];rfl
   have z2:w4.cell? ⟨wr.heap.size+1,2,none⟩=some (.int .i64 0):=by rw [Lib.cell_of_heap Z4.out];rfl
   have z3:w4.cell? ⟨wr.heap.size+1,3,none⟩=some (.slice none 0 0):=by rw [Lib.cell_of_heap Z4.out];rfl
   have z4:w4.cell? ⟨wr.heap.size+1,4,none⟩=some (.slice none 0 0):=by rw [Lib.cell_of_heap Z4.out];rfl
   have z5:w4.cell? ⟨wr.heap.size+1,5,none⟩=some (.int .i64 lo):=by rw [Lib.cell_of_heap Z4.out];rfl
   have z6:w4.cell? ⟨wr.heap.size+1,6,none⟩=some (.int .i64 hi):=by rw [Lib.cell_of_heap Z4.out];rfl
   have z7:w4.cell? ⟨wr.heap.size+1,7,none⟩=some (.bool o):=by rw [Lib.cell_of_heap Z4.out];rfl
   have z8:w4.cell? ⟨wr.heap.size+1,8,none⟩=some (.slice (some ⟨wr.heap.size,0,none⟩) 1 1):=by rw [Lib.cell_of_heap Z4.out];rfl
   have z9:w4.cell? ⟨wr.heap.size+1,9,none⟩=some (.slice none 0 0):=by rw [Lib.cell_of_heap Z4.out];rfl
   go_wp2_with fail
   refine (cR.out w4 kB).mono ?_
   rintro e w5 ⟨rfl,kb⟩
   have Y5:Hid (_):=blkC Y4.out kb
   have R5:Hid (_):=blkC R4.out kb
   have B5:Below w2.heap.size w2 w5:=B4.trans (kb.mono (by have:=B4.size;omega))
   clear kb Z4 Y4 R4 cR z0 z1 z2 z3 z4 z5 z6 z7 z8 z9
   have y0:w5.cell? ⟨w.heap.size+1,0,none⟩=some (.int .i64 lo):=by rw [Lib.cell_of_heap Y5.out];rfl
   have y1:w5.cell? ⟨w.heap.size+1,1,none⟩=some (.int .i64 hi):=by rw [Lib.cell_of_heap Y5.out];rfl
   have y2:w5.cell? ⟨w.heap.size+1,2,none⟩=some (.bool o):=by rw [Lib.cell_of_heap Y5.out];rfl
   have hs:SE=0:=by rw [h1,if_neg (by simp)]
   have hg:SG=SR:=by rw [h2 (by simp),if_neg (by omega)]
   subst hs hg
   clear h1 h2 h9 HSR
   go_wp2
   exact ⟨⟨1,by omega,by go_num,B5,R5⟩,by simp [intOf]⟩
  ·have hrw:wr.cell? ⟨w2.heap.size,1,none⟩=some (.int .i64 13):=by rw [Lib.cell_of_heap hRow.out];rfl
   have x0:wr.cell? ⟨w.heap.size,0,none⟩=some (.int .i64 f.k):=by rw [Lib.cell_of_heap Xr.out];rfl
   have x1:wr.cell? ⟨w.heap.size,1,none⟩=some (.string f.nm):=by rw [Lib.cell_of_heap Xr.out];rfl
   have x2:wr.cell? ⟨w.heap.size,2,none⟩=some (.int .i64 f.op):=by rw [Lib.cell_of_heap Xr.out];rfl
   have x3:wr.cell? ⟨w.heap.size,3,none⟩=some (.slice pv1 f.vars.length cv1):=by rw [Lib.cell_of_heap Xr.out];rfl
   have x4:wr.cell? ⟨w.heap.size,4,none⟩=some (.slice pt1 f.terms.length ct1):=by rw [Lib.cell_of_heap Xr.out];rfl
   have x5:wr.cell? ⟨w.heap.size,5,none⟩=some (.int .i64 f.lo):=by rw [Lib.cell_of_heap Xr.out];rfl
   have x6:wr.cell? ⟨w.heap.size,6,none⟩=some (.int .i64 f.hi):=by rw [Lib.cell_of_heap Xr.out];rfl
   have x7:wr.cell? ⟨w.heap.size,7,none⟩=some (.bool f.opn):=by rw [Lib.cell_of_heap Xr.out];rfl
   have x8:wr.cell? ⟨w.heap.size,8,none⟩=some (.slice ps1 f.subs.length cs1):=by rw [Lib.cell_of_heap Xr.out];rfl
   have x9:wr.cell? ⟨w.heap.size,9,none⟩=some (.slice pr1 f.rgx.length cr1):=by rw [Lib.cell_of_heap Xr.out];rfl
   have y0:wr.cell? ⟨w.heap.size+1,0,none⟩=some (.int .i64 lo):=by rw [Lib.cell_of_heap Yr.out];rfl
   have y1:wr.cell? ⟨w.heap.size+1,1,none⟩=some (.int .i64 hi):=by rw [Lib.cell_of_heap Yr.out];rfl
   have y2:wr.cell? ⟨w.heap.size+1,2,none⟩=some (.bool o):=by rw [Lib.cell_of_heap Yr.out];rfl
   go_upto_region 9 with fail
   refine wpS_world ?_
   intro W0 hW0
   have kA:Below wr.heap.size wr W0:=by rw [hW0];go_grown
   have Z0:Hid (W0.heap[wr.heap.size+1]? =some (.cells #[.int .i64 13,.string ⟨#[]⟩,.int .i64 0,.slice none 0 0,.slice none 0 0,.int .i64 lo,.int .i64 hi,.bool o,.slice (some ⟨wr.heap.size,0,none⟩) 1 1,.slice none 0 0] 29 (0,0))):=by rw [hW0];exact blk2b wr _ _
   have S0:Hid (W0.heap[wr.heap.size]? =some (.cells #[.int .i64 f.k,.string f.nm,.int .i64 f.op,.slice pv1 f.vars.length cv1,.slice pt1 f.terms.length ct1,.int .i64 f.lo,.int .i64 f.hi,.bool f.opn,.slice ps1 f.subs.length cs1,.slice pr1 f.rgx.length cr1] 29 (0,0))):=by rw [hW0];exact blk2a wr _ _
   clear hW0 hrw x0 x1 x2 x3 x4 x5 x6 x7 x8 x9 y0 y1 y2
   have K0:Below w.heap.size w W0:=Kr.trans (kA.mono Kr.size)
   have Y0:Hid (_):=blkC Yr.out kA
   have R0:Hid (_):=blkC hRow.out kA
   have hA:QAt W0 (oneF 13 [] lo hi o f,⟨.slice none 0 0,.slice none 0 0,.slice (some ⟨wr.heap.size,0,none⟩) 1 1,.slice none 0 0⟩):=⟨nms_nil _,.nil,fms_one (f:=f) (blkLt S0.out) (HF.out W0 K0) (by refine ⟨?_, ?_, ?_, ?_, ?_, ?_, ?_, ?_, ?_, ?_⟩<;>(rw [Lib.cell_of_heap S0.out];rfl)),.nil⟩
   have cK:Hid (∀ W:World,Below W0.heap.size W0 W→Calls Tryz.prog 18 #[.agg #[.int .i64 13,.string ⟨#[]⟩,.int .i64 0,.slice none 0 0,.slice none 0 0,.int .i64 lo,.int .i64 hi,.bool o,.slice (some ⟨wr.heap.size,0,none⟩) 1 1,.slice none 0 0]] W fun e w'=>e=.returned (.int .i64 (chkF (oneF 13 [] lo hi o f)))∧Below W.heap.size W w'):=fun W hW=>rcheck_fm (oneF 13 [] lo hi o f) ⟨.slice none 0 0,.slice none 0 0,.slice (some ⟨wr.heap.size,0,none⟩) 1 1,.slice none 0 0⟩ W (hA.below hW)
   have cR:Hid (∀ W:World,Below W0.heap.size W0 W→Calls Tryz.prog 10 #[.agg #[.int .i64 13,.string ⟨#[]⟩,.int .i64 0,.slice none 0 0,.slice none 0 0,.int .i64 lo,.int .i64 hi,.bool o,.slice (some ⟨wr.heap.size,0,none⟩) 1 1,.slice none 0 0]] W fun e w'=>e=.returned (.tuple #[.int .i64 (stR (oneF 13 [] lo hi o f)),.int .i64 (stE (oneF 13 [] lo hi o f))])∧Below W.heap.size W w'):=fun W hW=>reach_st (oneF 13 [] lo hi o f) ⟨.slice none 0 0,.slice none 0 0,.slice (some ⟨wr.heap.size,0,none⟩) 1 1,.slice none 0 0⟩ W (hA.below hW)
   have hl:=hlaw.out 13 (by omega)
   have hi9:Hid (chkF (oneF 13 [] lo hi o f)=0→(13=12∨13=14)→0≤hi∧hi≤1099511627776):=fun h h2=>hi_of (k:=13) (by omega) h
   obtain ⟨C,eC⟩:∃ C,Hid (chkF (oneF 13 [] lo hi o f)=C):=⟨_,rfl⟩
   obtain ⟨SE,eE⟩:∃ SE,Hid (stE (oneF 13 [] lo hi o f)=SE):=⟨_,rfl⟩
   obtain ⟨SG,eG⟩:∃ SG,Hid (stR (oneF 13 [] lo hi o f)=SG):=⟨_,rfl⟩
   rw [eC.out] at cK hl hi9
   rw [eE.out,eG.out] at cR hl
   have HL:Hid (C=0→SE=(if ((13:Int)=12∨(13:Int)=14)∧o=true then 100 else 0)∧(¬ (((13:Int)=12∨(13:Int)=14)∧o=true)→SG=(if (13:Int)=12∨(13:Int)=14 then SR+hi else SR))):=hl
   clear hl hA S0 Xr hlaw HF eC eE eG
   have hz:=Z0.out
   have z0:W0.cell? ⟨wr.heap.size+1,0,none⟩=some (.int .i64 13):=by rw [Lib.cell_of_heap hz];rfl
   have z1:W0.cell? ⟨wr.heap.size+1,1,none⟩=some (.string ⟨#[]⟩):=by rw [Lib.cell_of_heap hz];rfl
   have z2:W0.cell? ⟨wr.heap.size+1,2,none⟩=some (.int .i64 0):=by rw [Lib.cell_of_heap hz];rfl
   have z3:W0.cell? ⟨wr.heap.size+1,3,none⟩=some (.slice none 0 0):=by rw [Lib.cell_of_heap hz];rfl
   have z4:W0.cell? ⟨wr.heap.size+1,4,none⟩=some (.slice none 0 0):=by rw [Lib.cell_of_heap hz];rfl
   have z5:W0.cell? ⟨wr.heap.size+1,5,none⟩=some (.int .i64 lo):=by rw [Lib.cell_of_heap hz];rfl
   have z6:W0.cell? ⟨wr.heap.size+1,6,none⟩=some (.int .i64 hi):=by rw [Lib.cell_of_heap hz];rfl
   have z7:W0.cell? ⟨wr.heap.size+1,7,none⟩=some (.bool o):=by rw [Lib.cell_of_heap hz];rfl
   have z8:W0.cell? ⟨wr.heap.size+1,8,none⟩=some (.slice (some ⟨wr.heap.size,0,none⟩) 1 1):=by rw [Lib.cell_of_heap hz];rfl
   have z9:W0.cell? ⟨wr.heap.size+1,9,none⟩=some (.slice none 0 0):=by rw [Lib.cell_of_heap hz];rfl
   go_wp2_with fail
   refine (cK.out W0 (Below.refl _ _)).mono ?_
   rintro e w4 ⟨rfl,kB⟩
   have Z4:Hid (_):=blkC hz kB
   have Y4:Hid (_):=blkC Y0.out kB
   have R4:Hid (_):=blkC R0.out kB
   have B4:Below w2.heap.size w2 w4:=(hB.trans (kA.mono hB.size)).trans (kB.mono (by have:=kA.size;omega))
   clear Z0 hz cK Y0 R0 z0 z1 z2 z3 z4 z5 z6 z7 z8 z9
   by_cases hc:C=0
   case neg=>
    have hne2:(C != 0)=true:=by simp [hc]
    clear HL cR Z4 Y4 HSR hi9 Yr
    go_wp2
    exact ⟨⟨2,by omega,by go_num,B4,R4⟩,by simp [intOf]⟩
   case pos=>
   subst hc
   obtain ⟨h1,h2⟩:=HL.out rfl
   have h9:=hi9.out rfl
   clear HL hi9
   have z0:w4.cell? ⟨wr.heap.size+1,0,none⟩=some (.int .i64 13):=by rw [Lib.cell_of_heap Z4.out];rfl
   have z1:w4.cell? ⟨wr.heap.size+1,1,none⟩=some (.string ⟨#[]⟩):=by rw [Lib.cell_of_heap Z4.out];rfl
   have z2:w4.cell? ⟨wr.heap.size+1,2,none⟩=some (.int .i64 0):=by rw [Lib.cell_of_heap Z4.out];rfl
   have z3:w4.cell? ⟨wr.heap.size+1,3,none⟩=some (.slice none 0 0):=by rw [Lib.cell_of_heap Z4.out];rfl
   have z4:w4.cell? ⟨wr.heap.size+1,4,none⟩=some (.slice none 0 0):=by rw [Lib.cell_of_heap Z4.out];rfl
   have z5:w4.cell? ⟨wr.heap.size+1,5,none⟩=some (.int .i64 lo):=by rw [Lib.cell_of_heap Z4.out];rfl
   have z6:w4.cell? ⟨wr.heap.size+1,6,none⟩=some (.int .i64 hi):=by rw [Lib.cell_of_heap Z4.out];rfl
   have z7:w4.cell? ⟨wr.heap.size+1,7,none⟩=some (.bool o):=by rw [Lib.cell_of_heap Z4.out];rfl
   have z8:w4.cell? ⟨wr.heap.size+1,8,none⟩=some (.slice (some ⟨wr.heap.size,0,none⟩) 1 1):=by rw [Lib.cell_of_heap Z4.out];rfl
   have z9:w4.cell? ⟨wr.heap.size+1,9,none⟩=some (.slice none 0 0):=by rw [Lib.cell_of_heap Z4.out];rfl
   go_wp2_with fail
   refine (cR.out w4 kB).mono ?_
   rintro e w5 ⟨rfl,kb⟩
   have Y5:Hid (_):=blkC Y4.out kb
   have R5:Hid (_):=blkC R4.out kb
   have B5:Below w2.heap.size w2 w5:=B4.trans (kb.mono (by have:=B4.size;omega))
   clear kb Z4 Y4 R4 cR z0 z1 z2 z3 z4 z5 z6 z7 z8 z9
   have y0:w5.cell? ⟨w.heap.size+1,0,none⟩=some (.int .i64 lo):=by rw [Lib.cell_of_heap Y5.out];rfl
   have y1:w5.cell? ⟨w.heap.size+1,1,none⟩=some (.int .i64 hi):=by rw [Lib.cell_of_heap Y5.out];rfl
   have y2:w5.cell? ⟨w.heap.size+1,2,none⟩=some (.bool o):=by rw [Lib.cell_of_heap Y5.out];rfl
   have hs:SE=0:=by rw [h1,if_neg (by simp)]
   have hg:SG=SR:=by rw [h2 (by simp),if_neg (by omega)]
   subst hs hg
   clear h1 h2 h9 HSR
   go_wp2
   exact ⟨⟨2,by omega,by go_num,B5,R5⟩,by simp [intOf]⟩
  ·have hrw:wr.cell? ⟨w2.heap.size,2,none⟩=some (.int .i64 12):=by rw [Lib.cell_of_heap hRow.out];rfl
   have x0:wr.cell? ⟨w.heap.size,0,none⟩=some (.int .i64 f.k):=by rw [Lib.cell_of_heap Xr.out];rfl
   have x1:wr.cell? ⟨w.heap.size,1,none⟩=some (.string f.nm):=by rw [Lib.cell_of_heap Xr.out];rfl
   have x2:wr.cell? ⟨w.heap.size,2,none⟩=some (.int .i64 f.op):=by rw [Lib.cell_of_heap Xr.out];rfl
   have x3:wr.cell? ⟨w.heap.size,3,none⟩=some (.slice pv1 f.vars.length cv1):=by rw [Lib.cell_of_heap Xr.out];rfl
   have x4:wr.cell? ⟨w.heap.size,4,none⟩=some (.slice pt1 f.terms.length ct1):=by rw [Lib.cell_of_heap Xr.out];rfl
   have x5:wr.cell? ⟨w.heap.size,5,none⟩=some (.int .i64 f.lo):=by rw [Lib.cell_of_heap Xr.out];rfl
   have x6:wr.cell? ⟨w.heap.size,6,none⟩=some (.int .i64 f.hi):=by rw [Lib.cell_of_heap Xr.out];rfl
   have x7:wr.cell? ⟨w.heap.size,7,none⟩=some (.bool f.opn):=by rw [Lib.cell_of_heap Xr.out];rfl
   have x8:wr.cell? ⟨w.heap.size,8,none⟩=some (.slice ps1 f.subs.length cs1):=by rw [Lib.cell_of_heap Xr.out];rfl
   have x9:wr.cell? ⟨w.heap.size,9,none⟩=some (.slice pr1 f.rgx.length cr1):=by rw [Lib.cell_of_heap Xr.out];rfl
   have y0:wr.cell? ⟨w.heap.size+1,0,none⟩=some (.int .i64 lo):=by rw [Lib.cell_of_heap Yr.out];rfl
   have y1:wr.cell? ⟨w.heap.size+1,1,none⟩=some (.int .i64 hi):=by rw [Lib.cell_of_heap Yr.out];rfl
   have y2:wr.cell? ⟨w.heap.size+1,2,none⟩=some (.bool o):=by rw [Lib.cell_of_heap Yr.out];rfl
   go_upto_region 9 with fail
   refine wpS_world ?_
   intro W0 hW0
   have kA:Below wr.heap.size wr W0:=by rw [hW0];go_grown
   have Z0:Hid (W0.heap[wr.heap.size+1]? =some (.cells #[.int .i64 12,.string ⟨#[]⟩,.int .i64 0,.slice none 0 0,.slice none 0 0,.int .i64 lo,.int .i64 hi,.bool o,.slice (some ⟨wr.heap.size,0,none⟩) 1 1,.slice none 0 0] 29 (0,0))):=by rw [hW0];exact blk2b wr _ _
   have S0:Hid (W0.heap[wr.heap.size]? =some (.cells #[.int .i64 f.k,.string f.nm,.int .i64 f.op,.slice pv1 f.vars.length cv1,.slice pt1 f.terms.length ct1,.int .i64 f.lo,.int .i64 f.hi,.bool f.opn,.slice ps1 f.subs.length cs1,.slice pr1 f.rgx.length cr1] 29 (0,0))):=by rw [hW0];exact blk2a wr _ _
   clear hW0 hrw x0 x1 x2 x3 x4 x5 x6 x7 x8 x9 y0 y1 y2
   have K0:Below w.heap.size w W0:=Kr.trans (kA.mono Kr.size)
   have Y0:Hid (_):=blkC Yr.out kA
   have R0:Hid (_):=blkC hRow.out kA
   have hA:QAt W0 (oneF 12 [] lo hi o f,⟨.slice none 0 0,.slice none 0 0,.slice (some ⟨wr.heap.size,0,none⟩) 1 1,.slice none 0 0⟩):=⟨nms_nil _,.nil,fms_one (f:=f) (blkLt S0.out) (HF.out W0 K0) (by refine ⟨?_, ?_, ?_, ?_, ?_, ?_, ?_, ?_, ?_, ?_⟩<;>(rw [Lib.cell_of_heap S0.out];rfl)),.nil⟩
   have cK:Hid (∀ W:World,Below W0.heap.size W0 W→Calls Tryz.prog 18 #[.agg #[.int .i64 12,.string ⟨#[]⟩,.int .i64 0,.slice none 0 0,.slice none 0 0,.int .i64 lo,.int .i64 hi,.bool o,.slice (some ⟨wr.heap.size,0,none⟩) 1 1,.slice none 0 0]] W fun e w'=>e=.returned (.int .i64 (chkF (oneF 12 [] lo hi o f)))∧Below W.heap.size W w'):=fun W hW=>rcheck_fm (oneF 12 [] lo hi o f) ⟨.slice none 0 0,.slice none 0 0,.slice (some ⟨wr.heap.size,0,none⟩) 1 1,.slice none 0 0⟩ W (hA.below hW)
   have cR:Hid (∀ W:World,Below W0.heap.size W0 W→Calls Tryz.prog 10 #[.agg #[.int .i64 12,.string ⟨#[]⟩,.int .i64 0,.slice none 0 0,.slice none 0 0,.int .i64 lo,.int .i64 hi,.bool o,.slice (some ⟨wr.heap.size,0,none⟩) 1 1,.slice none 0 0]] W fun e w'=>e=.returned (.tuple #[.int .i64 (stR (oneF 12 [] lo hi o f)),.int .i64 (stE (oneF 12 [] lo hi o f))])∧Below W.heap.size W w'):=fun W hW=>reach_st (oneF 12 [] lo hi o f) ⟨.slice none 0 0,.slice none 0 0,.slice (some ⟨wr.heap.size,0,none⟩) 1 1,.slice none 0 0⟩ W (hA.below hW)
   have hl:=hlaw.out 12 (by omega)
   have hi9:Hid (chkF (oneF 12 [] lo hi o f)=0→(12=12∨12=14)→0≤hi∧hi≤1099511627776):=fun h h2=>hi_of (k:=12) (by omega) h
   obtain ⟨C,eC⟩:∃ C,Hid (chkF (oneF 12 [] lo hi o f)=C):=⟨_,rfl⟩
   obtain ⟨SE,eE⟩:∃ SE,Hid (stE (oneF 12 [] lo hi o f)=SE):=⟨_,rfl⟩
   obtain ⟨SG,eG⟩:∃ SG,Hid (stR (oneF 12 [] lo hi o f)=SG):=⟨_,rfl⟩
   rw [eC.out] at cK hl hi9
   rw [eE.out,eG.out] at cR hl
   have HL:Hid (C=0→SE=(if ((12:Int)=12∨(12:Int)=14)∧o=true then 100 else 0)∧(¬ (((12:Int)=12∨(12:Int)=14)∧o=true)→SG=(if (12:Int)=12∨(12:Int)=14 then SR+hi else SR))):=hl
   clear hl hA S0 Xr hlaw HF eC eE eG
   have hz:=Z0.out
   have z0:W0.cell? ⟨wr.heap.size+1,0,none⟩=some (.int .i64 12):=by rw [Lib.cell_of_heap hz];rfl
   have z1:W0.cell? ⟨wr.heap.size+1,1,none⟩=some (.string ⟨#[]⟩):=by rw [Lib.cell_of_heap hz];rfl
   have z2:W0.cell? ⟨wr.heap.size+1,2,none⟩=some (.int .i64 0):=by rw [Lib.cell_of_heap hz];rfl
   have z3:W0.cell? ⟨wr.heap.size+1,3,none⟩=some (.slice none 0 0):=by rw [Lib.cell_of_heap hz];rfl
   have z4:W0.cell? ⟨wr.heap.size+1,4,none⟩=some (.slice none 0 0):=by rw [Lib.cell_of_heap hz];rfl
   have z5:W0.cell? ⟨wr.heap.size+1,5,none⟩=some (.int .i64 lo):=by rw [Lib.cell_of_heap hz];rfl
   have z6:W0.cell? ⟨wr.heap.size+1,6,none⟩=some (.int .i64 hi):=by rw [Lib.cell_of_heap hz];rfl
   have z7:W0.cell? ⟨wr.heap.size+1,7,none⟩=some (.bool o):=by rw [Lib.cell_of_heap hz];rfl
   have z8:W0.cell? ⟨wr.heap.size+1,8,none⟩=some (.slice (some ⟨wr.heap.size,0,none⟩) 1 1):=by rw [Lib.cell_of_heap hz];rfl
   have z9:W0.cell? ⟨wr.heap.size+1,9,none⟩=some (.slice none 0 0):=by rw [Lib.cell_of_heap hz];rfl
   go_wp2_with fail
   refine (cK.out W0 (Below.refl _ _)).mono ?_
   rintro e w4 ⟨rfl,kB⟩
   have Z4:Hid (_):=blkC hz kB
   have Y4:Hid (_):=blkC Y0.out kB
   have R4:Hid (_):=blkC R0.out kB
   have B4:Below w2.heap.size w2 w4:=(hB.trans (kA.mono hB.size)).trans (kB.mono (by have:=kA.size;omega))
   clear Z0 hz cK Y0 R0 z0 z1 z2 z3 z4 z5 z6 z7 z8 z9
   by_cases hc:C=0
   case neg=>
    have hne2:(C != 0)=true:=by simp [hc]
    clear HL cR Z4 Y4 HSR hi9 Yr
    go_wp2
    exact ⟨⟨3,by omega,by go_num,B4,R4⟩,by simp [intOf]⟩
   case pos=>
   subst hc
   obtain ⟨h1,h2⟩:=HL.out rfl
   have h9:=hi9.out rfl
   clear HL hi9
   have z0:w4.cell? ⟨wr.heap.size+1,0,none⟩=some (.int .i64 12):=by rw [Lib.cell_of_heap Z4.out];rfl
   have z1:w4.cell? ⟨wr.heap.size+1,1,none⟩=some (.string ⟨#[]⟩):=by rw [Lib.cell_of_heap Z4.out];rfl
   have z2:w4.cell? ⟨wr.heap.size+1,2,none⟩=some (.int .i64 0):=by rw [Lib.cell_of_heap Z4.out];rfl
   have z3:w4.cell? ⟨wr.heap.size+1,3,none⟩=some (.slice none 0 0):=by rw [Lib.cell_of_heap Z4.out];rfl
   have z4:w4.cell? ⟨wr.heap.size+1,4,none⟩=some (.slice none 0 0):=by rw [Lib.cell_of_heap Z4.out];rfl
   have z5:w4.cell? ⟨wr.heap.size+1,5,none⟩=some (.int .i64 lo):=by rw [Lib.cell_of_heap Z4.out];rfl
   have z6:w4.cell? ⟨wr.heap.size+1,6,none⟩=some (.int .i64 hi):=by rw [Lib.cell_of_heap Z4.out];rfl
   have z7:w4.cell? ⟨wr.heap.size+1,7,none⟩=some (.bool o):=by rw [Lib.cell_of_heap Z4.out];rfl
   have z8:w4.cell? ⟨wr.heap.size+1,8,none⟩=some (.slice (some ⟨wr.heap.size,0,none⟩) 1 1):=by rw [Lib.cell_of_heap Z4.out];rfl
   have z9:w4.cell? ⟨wr.heap.size+1,9,none⟩=some (.slice none 0 0):=by rw [Lib.cell_of_heap Z4.out];rfl
   go_wp2_with fail
   refine (cR.out w4 kB).mono ?_
   rintro e w5 ⟨rfl,kb⟩
   have Y5:Hid (_):=blkC Y4.out kb
   have R5:Hid (_):=blkC R4.out kb
   have B5:Below w2.heap.size w2 w5:=B4.trans (kb.mono (by have:=B4.size;omega))
   clear kb Z4 Y4 R4 cR z0 z1 z2 z3 z4 z5 z6 z7 z8 z9
   have y0:w5.cell? ⟨w.heap.size+1,0,none⟩=some (.int .i64 lo):=by rw [Lib.cell_of_heap Y5.out];rfl
   have y1:w5.cell? ⟨w.heap.size+1,1,none⟩=some (.int .i64 hi):=by rw [Lib.cell_of_heap Y5.out];rfl
   have y2:w5.cell? ⟨w.heap.size+1,2,none⟩=some (.bool o):=by rw [Lib.cell_of_heap Y5.out];rfl
   cases o with
   | true=>
    have hs:SE=100:=by rw [h1,if_pos (by simp)]
    subst hs
    clear h1 h2 h9 HSR
    go_wp2
    exact ⟨⟨3,by omega,by go_num,B5,R5⟩,by simp [intOf]⟩
   | false=>
    have hs:SE=0:=by rw [h1,if_neg (by simp)]
    have hg:SG=SR+hi:=by rw [h2 (by simp),if_pos (by simp)]
    have hw:IntKind.i64.wrap (SR+hi)=SR+hi:=by have:=HSR.out;have:=h9 (by simp);exact wrap_inS (by omega) (by omega)
    subst hs hg
    clear h1 h2 h9 HSR
    go_wp2
    exact ⟨⟨3,by omega,by go_num,B5,R5⟩,by simp [intOf]⟩
  ·have hrw:wr.cell? ⟨w2.heap.size,3,none⟩=some (.int .i64 14):=by rw [Lib.cell_of_heap hRow.out];rfl
   have x0:wr.cell? ⟨w.heap.size,0,none⟩=some (.int .i64 f.k):=by rw [Lib.cell_of_heap Xr.out];rfl
   have x1:wr.cell? ⟨w.heap.size,1,none⟩=some (.string f.nm):=by rw [Lib.cell_of_heap Xr.out];rfl
   have x2:wr.cell? ⟨w.heap.size,2,none⟩=some (.int .i64 f.op):=by rw [Lib.cell_of_heap Xr.out];rfl
   have x3:wr.cell? ⟨w.heap.size,3,none⟩=some (.slice pv1 f.vars.length cv1):=by rw [Lib.cell_of_heap Xr.out];rfl
   have x4:wr.cell? ⟨w.heap.size,4,none⟩=some (.slice pt1 f.terms.length ct1):=by rw [Lib.cell_of_heap Xr.out];rfl
   have x5:wr.cell? ⟨w.heap.size,5,none⟩=some (.int .i64 f.lo):=by rw [Lib.cell_of_heap Xr.out];rfl
   have x6:wr.cell? ⟨w.heap.size,6,none⟩=some (.int .i64 f.hi):=by rw [Lib.cell_of_heap Xr.out];rfl
   have x7:wr.cell? ⟨w.heap.size,7,none⟩=some (.bool f.opn):=by rw [Lib.cell_of_heap Xr.out];rfl
   have x8:wr.cell? ⟨w.heap.size,8,none⟩=some (.slice ps1 f.subs.length cs1):=by rw [Lib.cell_of_heap Xr.out];rfl
   have x9:wr.cell? ⟨w.heap.size,9,none⟩=some (.slice pr1 f.rgx.length cr1):=by rw [Lib.cell_of_heap Xr.out];rfl
   have y0:wr.cell? ⟨w.heap.size+1,0,none⟩=some (.int .i64 lo):=by rw [Lib.cell_of_heap Yr.out];rfl
   have y1:wr.cell? ⟨w.heap.size+1,1,none⟩=some (.int .i64 hi):=by rw [Lib.cell_of_heap Yr.out];rfl
   have y2:wr.cell? ⟨w.heap.size+1,2,none⟩=some (.bool o):=by rw [Lib.cell_of_heap Yr.out];rfl
   go_upto_region 9 with fail
   refine wpS_world ?_
   intro W0 hW0
   have kA:Below wr.heap.size wr W0:=by rw [hW0];go_grown
   have Z0:Hid (W0.heap[wr.heap.size+1]? =some (.cells #[.int .i64 14,.string ⟨#[]⟩,.int .i64 0,.slice none 0 0,.slice none 0 0,.int .i64 lo,.int .i64 hi,.bool o,.slice (some ⟨wr.heap.size,0,none⟩) 1 1,.slice none 0 0] 29 (0,0))):=by rw [hW0];exact blk2b wr _ _
   have S0:Hid (W0.heap[wr.heap.size]? =some (.cells #[.int .i64 f.k,.string f.nm,.int .i64 f.op,.slice pv1 f.vars.length cv1,.slice pt1 f.terms.length ct1,.int .i64 f.lo,.int .i64 f.hi,.bool f.opn,.slice ps1 f.subs.length cs1,.slice pr1 f.rgx.length cr1] 29 (0,0))):=by rw [hW0];exact blk2a wr _ _
   clear hW0 hrw x0 x1 x2 x3 x4 x5 x6 x7 x8 x9 y0 y1 y2
   have K0:Below w.heap.size w W0:=Kr.trans (kA.mono Kr.size)
   have Y0:Hid (_):=blkC Yr.out kA
   have R0:Hid (_):=blkC hRow.out kA
   have hA:QAt W0 (oneF 14 [] lo hi o f,⟨.slice none 0 0,.slice none 0 0,.slice (some ⟨wr.heap.size,0,none⟩) 1 1,.slice none 0 0⟩):=⟨nms_nil _,.nil,fms_one (f:=f) (blkLt S0.out) (HF.out W0 K0) (by refine ⟨?_, ?_, ?_, ?_, ?_, ?_, ?_, ?_, ?_, ?_⟩<;>(rw [Lib.cell_of_heap S0.out];rfl)),.nil⟩
   have cK:Hid (∀ W:World,Below W0.heap.size W0 W→Calls Tryz.prog 18 #[.agg #[.int .i64 14,.string ⟨#[]⟩,.int .i64 0,.slice none 0 0,.slice none 0 0,.int .i64 lo,.int .i64 hi,.bool o,.slice (some ⟨wr.heap.size,0,none⟩) 1 1,.slice none 0 0]] W fun e w'=>e=.returned (.int .i64 (chkF (oneF 14 [] lo hi o f)))∧Below W.heap.size W w'):=fun W hW=>rcheck_fm (oneF 14 [] lo hi o f) ⟨.slice none 0 0,.slice none 0 0,.slice (some ⟨wr.heap.size,0,none⟩) 1 1,.slice none 0 0⟩ W (hA.below hW)
   have cR:Hid (∀ W:World,Below W0.heap.size W0 W→Calls Tryz.prog 10 #[.agg #[.int .i64 14,.string ⟨#[]⟩,.int .i64 0,.slice none 0 0,.slice none 0 0,.int .i64 lo,.int .i64 hi,.bool o,.slice (some ⟨wr.heap.size,0,none⟩) 1 1,.slice none 0 0]] W fun e w'=>e=.returned (.tuple #[.int .i64 (stR (oneF 14 [] lo hi o f)),.int .i64 (stE (oneF 14 [] lo hi o f))])∧Below W.heap.size W w'):=fun W hW=>reach_st (oneF 14 [] lo hi o f) ⟨.slice none 0 0,.slice none 0 0,.slice (some ⟨wr.heap.size,0,none⟩) 1 1,.slice none 0 0⟩ W (hA.below hW)
   have hl:=hlaw.out 14 (by omega)
   have hi9:Hid (chkF (oneF 14 [] lo hi o f)=0→(14=12∨14=14)→0≤hi∧hi≤1099511627776):=fun h h2=>hi_of (k:=14) (by omega) h
   obtain ⟨C,eC⟩:∃ C,Hid (chkF (oneF 14 [] lo hi o f)=C):=⟨_,rfl⟩
   obtain ⟨SE,eE⟩:∃ SE,Hid (stE (oneF 14 [] lo hi o f)=SE):=⟨_,rfl⟩
   obtain ⟨SG,eG⟩:∃ SG,Hid (stR (oneF 14 [] lo hi o f)=SG):=⟨_,rfl⟩
   rw [eC.out] at cK hl hi9
   rw [eE.out,eG.out] at cR hl
   have HL:Hid (C=0→SE=(if ((14:Int)=12∨(14:Int)=14)∧o=true then 100 else 0)∧(¬ (((14:Int)=12∨(14:Int)=14)∧o=true)→SG=(if (14:Int)=12∨(14:Int)=14 then SR+hi else SR))):=hl
   clear hl hA S0 Xr hlaw HF eC eE eG
   have hz:=Z0.out
   have z0:W0.cell? ⟨wr.heap.size+1,0,none⟩=some (.int .i64 14):=by rw [Lib.cell_of_heap hz];rfl
   have z1:W0.cell? ⟨wr.heap.size+1,1,none⟩=some (.string ⟨#[]⟩):=by rw [Lib.cell_of_heap hz];rfl
   have z2:W0.cell? ⟨wr.heap.size+1,2,none⟩=some (.int .i64 0):=by rw [Lib.cell_of_heap hz];rfl
   have z3:W0.cell? ⟨wr.heap.size+1,3,none⟩=some (.slice none 0 0):=by rw [Lib.cell_of_heap hz];rfl
   have z4:W0.cell? ⟨wr.heap.size+1,4,none⟩=some (.slice none 0 0):=by rw [Lib.cell_of_heap hz];rfl
   have z5:W0.cell? ⟨wr.heap.size+1,5,none⟩=some (.int .i64 lo):=by rw [Lib.cell_of_heap hz];rfl
   have z6:W0.cell? ⟨wr.heap.size+1,6,none⟩=some (.int .i64 hi):=by rw [Lib.cell_of_heap hz];rfl
   have z7:W0.cell? ⟨wr.heap.size+1,7,none⟩=some (.bool o):=by rw [Lib.cell_of_heap hz];rfl
   have z8:W0.cell? ⟨wr.heap.size+1,8,none⟩=some (.slice (some ⟨wr.heap.size,0,none⟩) 1 1):=by rw [Lib.cell_of_heap hz];rfl
   have z9:W0.cell? ⟨wr.heap.size+1,9,none⟩=some (.slice none 0 0):=by rw [Lib.cell_of_heap hz];rfl
   go_wp2_with fail
   refine (cK.out W0 (Below.refl _ _)).mono ?_
   rintro e w4 ⟨rfl,kB⟩
   have Z4:Hid (_):=blkC hz kB
   have Y4:Hid (_):=blkC Y0.out kB
   have R4:Hid (_):=blkC R0.out kB
   have B4:Below w2.heap.size w2 w4:=(hB.trans (kA.mono hB.size)).trans (kB.mono (by have:=kA.size;omega))
   clear Z0 hz cK Y0 R0 z0 z1 z2 z3 z4 z5 z6 z7 z8 z9
   by_cases hc:C=0
   case neg=>
    have hne2:(C != 0)=true:=by simp [hc]
    clear HL cR Z4 Y4 HSR hi9 Yr
    go_wp2
    exact ⟨⟨4,by omega,by go_num,B4,R4⟩,by simp [intOf]⟩
   case pos=>
   subst hc
   obtain ⟨h1,h2⟩:=HL.out rfl
   have h9:=hi9.out rfl
   clear HL hi9
   have z0:w4.cell? ⟨wr.heap.size+1,0,none⟩=some (.int .i64 14):=by rw [Lib.cell_of_heap Z4.out];rfl
   have z1:w4.cell? ⟨wr.heap.size+1,1,none⟩=some (.string ⟨#[]⟩):=by rw [Lib.cell_of_heap Z4.out];rfl
   have z2:w4.cell? ⟨wr.heap.size+1,2,none⟩=some (.int .i64 0):=by rw [Lib.cell_of_heap Z4.out];rfl
   have z3:w4.cell? ⟨wr.heap.size+1,3,none⟩=some (.slice none 0 0):=by rw [Lib.cell_of_heap Z4.out];rfl
   have z4:w4.cell? ⟨wr.heap.size+1,4,none⟩=some (.slice none 0 0):=by rw [Lib.cell_of_heap Z4.out];rfl
   have z5:w4.cell? ⟨wr.heap.size+1,5,none⟩=some (.int .i64 lo):=by rw [Lib.cell_of_heap Z4.out];rfl
   have z6:w4.cell? ⟨wr.heap.size+1,6,none⟩=some (.int .i64 hi):=by rw [Lib.cell_of_heap Z4.out];rfl
   have z7:w4.cell? ⟨wr.heap.size+1,7,none⟩=some (.bool o):=by rw [Lib.cell_of_heap Z4.out];rfl
   have z8:w4.cell? ⟨wr.heap.size+1,8,none⟩=some (.slice (some ⟨wr.heap.size,0,none⟩) 1 1):=by rw [Lib.cell_of_heap Z4.out];rfl
   have z9:w4.cell? ⟨wr.heap.size+1,9,none⟩=some (.slice none 0 0):=by rw [Lib.cell_of_heap Z4.out];rfl
   go_wp2_with fail
   refine (cR.out w4 kB).mono ?_
   rintro e w5 ⟨rfl,kb⟩
   have Y5:Hid (_):=blkC Y4.out kb
   have R5:Hid (_):=blkC R4.out kb
   have B5:Below w2.heap.size w2 w5:=B4.trans (kb.mono (by have:=B4.size;omega))
   clear kb Z4 Y4 R4 cR z0 z1 z2 z3 z4 z5 z6 z7 z8 z9
   have y0:w5.cell? ⟨w.heap.size+1,0,none⟩=some (.int .i64 lo):=by rw [Lib.cell_of_heap Y5.out];rfl
   have y1:w5.cell? ⟨w.heap.size+1,1,none⟩=some (.int .i64 hi):=by rw [Lib.cell_of_heap Y5.out];rfl
   have y2:w5.cell? ⟨w.heap.size+1,2,none⟩=some (.bool o):=by rw [Lib.cell_of_heap Y5.out];rfl
   cases o with
   | true=>
    have hs:SE=100:=by rw [h1,if_pos (by simp)]
    subst hs
    clear h1 h2 h9 HSR
    go_wp2
    exact ⟨⟨4,by omega,by go_num,B5,R5⟩,by simp [intOf]⟩
   | false=>
    have hs:SE=0:=by rw [h1,if_neg (by simp)]
    have hg:SG=SR+hi:=by rw [h2 (by simp),if_pos (by simp)]
    have hw:IntKind.i64.wrap (SR+hi)=SR+hi:=by have:=HSR.out;have:=h9 (by simp);exact wrap_inS (by omega) (by omega)
    subst hs hg
    clear h1 h2 h9 HSR
    go_wp2
    exact ⟨⟨4,by omega,by go_num,B5,R5⟩,by simp [intOf]⟩
end Go.Proofs.YthodedagbbifbaaGreat
