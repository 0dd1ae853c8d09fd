/- What staticAnds_holds needs besides. -/
import Derived.Test.YthodedagbbifbaaGreatZ08
set_option maxRecDepth 100000
set_option maxHeartbeats 16000000
namespace Go.Proofs.YthodedagbbifbaaGreat
open Go.RowKit LX Go.Shelf
set_option linter.unusedVariables false
theorem sands_any (f g:Fm) (q r:FQ) (w:World) (hq:QAt w (f,q)) (hr:QAt w (g,r)):
  Calls Tryz.prog 5 #[.agg #[.int .i64 f.k,.string f.nm,.int .i64 f.op,q.v,q.t,.int .i64 f.lo,.int .i64 f.hi,.bool f.opn,q.s,q.r],.agg #[.int .i64 g.k,.string g.nm,.int .i64 g.op,r.v,r.t,.int .i64 g.lo,.int .i64 g.hi,.bool g.opn,r.s,r.r]] w fun e w'=>e=.returned (.bool true)∧Below w.heap.size w w':=by
 have HF:Hid (∀ W:World,Below w.heap.size w W→QAt W (f,q)):=fun W hW=>hq.below hW
 have HG:Hid (∀ W:World,Below w.heap.size w W→QAt W (g,r)):=fun W hW=>hr.below hW
 obtain ⟨uv,ut,us,ur⟩:=q
 obtain ⟨tv,tt,ts,tr⟩:=r
 have hq2:=sfm_forms hq
 have hr2:=sfm_forms hr
 dsimp only at hq2 hr2
 obtain ⟨⟨pv1,cv1,rfl⟩,⟨pt1,ct1,rfl⟩,⟨ps1,cs1,rfl⟩,⟨pr1,cr1,rfl⟩⟩:=hq2
 obtain ⟨⟨pv2,cv2,rfl⟩,⟨pt2,ct2,rfl⟩,⟨ps2,cs2,rfl⟩,⟨pr2,cr2,rfl⟩⟩:=hr2
 clear hq hr
 dsimp only
 go_enter Tryz.func5,Tryz.ntmps5
 go_wp2_with fail
 refine (live10_any _).mono ?_
 rintro e w1 ⟨rfl,hb1⟩
 have K1:Below w.heap.size w w1:=Below.trans (by go_grown) (hb1.mono (by simp;try omega))
 have X1:Hid (w1.heap[w.heap.size]? =_):=(hb1.block w.heap.size (by simp;try omega)).trans (blk2a w _ _)
 have Y1:Hid (w1.heap[w.heap.size+1]? =_):=(hb1.block (w.heap.size+1) (by simp)).trans (blk2b w _ _)
 clear hb1
 have x0:w1.cell? ⟨w.heap.size,0,none⟩=some (.int .i64 f.k):=by rw [Lib.cell_of_heap X1.out];rfl
 have x1:w1.cell? ⟨w.heap.size,1,none⟩=some (.string f.nm):=by rw [Lib.cell_of_heap X1.out];rfl
 have x2:w1.cell? ⟨w.heap.size,2,none⟩=some (.int .i64 f.op):=by rw [Lib.cell_of_heap X1.out];rfl
 have x3:w1.cell? ⟨w.heap.size,3,none⟩=some (.slice pv1 f.vars.length cv1):=by rw [Lib.cell_of_heap X1.out];rfl
 have x4:w1.cell? ⟨w.heap.size,4,none⟩=some (.slice pt1 f.terms.length ct1):=by rw [Lib.cell_of_heap X1.out];rfl
 have x5:w1.cell? ⟨w.heap.size,5,none⟩=some (.int .i64 f.lo):=by rw [Lib.cell_of_heap X1.out];rfl
 have x6:w1.cell? ⟨w.heap.size,6,none⟩=some (.int .i64 f.hi):=by rw [Lib.cell_of_heap X1.out];rfl
 have x7:w1.cell? ⟨w.heap.size,7,none⟩=some (.bool f.opn):=by rw [Lib.cell_of_heap X1.out];rfl
 have x8:w1.cell? ⟨w.heap.size,8,none⟩=some (.slice ps1 f.subs.length cs1):=by rw [Lib.cell_of_heap X1.out];rfl
 have x9:w1.cell? ⟨w.heap.size,9,none⟩=some (.slice pr1 f.rgx.length cr1):=by rw [Lib.cell_of_heap X1.out];rfl
 have y0:w1.cell? ⟨w.heap.size+1,0,none⟩=some (.int .i64 g.k):=by rw [Lib.cell_of_heap Y1.out];rfl
 have y1:w1.cell? ⟨w.heap.size+1,1,none⟩=some (.string g.nm):=by rw [Lib.cell_of_heap Y1.out];rfl
 have y2:w1.cell? ⟨w.heap.size+1,2,none⟩=some (.int .i64 g.op):=by rw [Lib.cell_of_heap Y1.out];rfl
 have y3:w1.cell? ⟨w.heap.size+1,3,none⟩=some (.slice pv2 g.vars.length cv2):=by rw [Lib.cell_of_heap Y1.out];rfl
 have y4:w1.cell? ⟨w.heap.size+1,4,none⟩=some (.slice pt2 g.terms.length ct2):=by rw [Lib.cell_of_heap Y1.out];rfl
 have y5:w1.cell? ⟨w.heap.size+1,5,none⟩=some (.int .i64 g.lo):=by rw [Lib.cell_of_heap Y1.out];rfl
 have y6:w1.cell? ⟨w.heap.size+1,6,none⟩=some (.int .i64 g.hi):=by rw [Lib.cell_of_heap Y1.out];rfl
 have y7:w1.cell? ⟨w.heap.size+1,7,none⟩=some (.bool g.opn):=by rw [Lib.cell_of_heap Y1.out];rfl
 have y8:w1.cell? ⟨w.heap.size+1,8,none⟩=some (.slice ps2 g.subs.length cs2):=by rw [Lib.cell_of_heap Y1.out];rfl
 have y9:w1.cell? ⟨w.heap.size+1,9,none⟩=some (.slice pr2 g.rgx.length cr2):=by rw [Lib.cell_of_heap Y1.out];rfl
 go_upto_region 3 with fail
 refine wpS_world ?_
 intro W0 hW0
 have kA:Below w1.heap.size w1 W0:=by rw [hW0];go_grown
 have Z0:Hid (W0.heap[w1.heap.size+1]? =some (.cells #[.int .i64 8,.string ⟨#[]⟩,.int .i64 0,.slice none 0 0,.slice none 0 0,.int .i64 0,.int .i64 0,.bool false,.slice (some ⟨w1.heap.size,0,none⟩) 2 2,.slice none 0 0] 29 (0,0))):=by rw [hW0];exact blk2b w1 _ _
 have S0:Hid (W0.heap[w1.heap.size]? =some (.cells #[.int .i64 f.k,.string f.nm,.int .i64 f.op,.slice pv1 f.vars.length cv1,.slice pt1 f.terms.length ct1,.int .i64 f.lo,.int .i64 f.hi,.bool f.opn,.slice ps1 f.subs.length cs1,.slice pr1 f.rgx.length cr1,.int .i64 g.k,.string g.nm,.int .i64 g.op,.slice pv2 g.vars.length cv2,.slice pt2 g.terms.length ct2,.int .i64 g.lo,.int .i64 g.hi,.bool g.opn,.slice ps2 g.subs.length cs2,.slice pr2 g.rgx.length cr2] 29 (0,0))):=by rw [hW0];exact blk2a w1 _ _
 clear hW0 x0 x1 x2 x3 x4 x5 x6 x7 x8 x9 y0 y1 y2 y3 y4 y5 y6 y7 y8 y9
 have K0:Below w.heap.size w W0:=K1.trans (kA.mono K1.size)
 have X0:Hid (W0.heap[w.heap.size]? =some (.cells #[.int .i64 f.k,.string f.nm,.int .i64 f.op,.slice pv1 f.vars.length cv1,.slice pt1 f.terms.length ct1,.int .i64 f.lo,.int .i64 f.hi,.bool f.opn,.slice ps1 f.subs.length cs1,.slice pr1 f.rgx.length cr1] 29 (0,0))):=blkC X1.out kA
 have Y0:Hid (W0.heap[w.heap.size+1]? =some (.cells #[.int .i64 g.k,.string g.nm,.int .i64 g.op,.slice pv2 g.vars.length cv2,.slice pt2 g.terms.length ct2,.int .i64 g.lo,.int .i64 g.hi,.bool g.opn,.slice ps2 g.subs.length cs2,.slice pr2 g.rgx.length cr2] 29 (0,0))):=blkC Y1.out kA
 have hA:QAt W0 (andF f g,⟨.slice none 0 0,.slice none 0 0,.slice (some ⟨w1.heap.size,0,none⟩) 2 2,.slice none 0 0⟩):=fits_and (blkLt S0.out) (HF.out W0 K0) (HG.out W0 K0) (by refine ⟨?_, ?_, ?_, ?_, ?_, ?_, ?_, ?_, ?_, ?_⟩<;>(rw [Lib.cell_of_heap S0.out];rfl)) (by refine ⟨?_, ?_, ?_, ?_, ?_, ?_, ?_, ?_, ?_, ?_⟩<;>(rw [Lib.cell_of_heap S0.out];rfl))
 have cK:Hid (∀ W:World,Below W0.heap.size W0 W→Calls Tryz.prog 18 #[.agg #[.int .i64 8,.string ⟨#[]⟩,.int .i64 0,.slice none 0 0,.slice none 0 0,.int .i64 0,.int .i64 0,.bool false,.slice (some ⟨w1.heap.size,0,none⟩) 2 2,.slice none 0 0]] W fun e w'=>e=.returned (.int .i64 (chkF (andF f g)))∧Below W.heap.size W w'):=fun W hW=>rcheck_fm (andF f g) ⟨.slice none 0 0,.slice none 0 0,.slice (some ⟨w1.heap.size,0,none⟩) 2 2,.slice none 0 0⟩ W (hA.below hW)
 have cA:Hid (∀ W:World,Below W0.heap.size W0 W→Calls Tryz.prog 12 #[.agg #[.int .i64 8,.string ⟨#[]⟩,.int .i64 0,.slice none 0 0,.slice none 0 0,.int .i64 0,.int .i64 0,.bool false,.slice (some ⟨w1.heap.size,0,none⟩) 2 2,.slice none 0 0]] W fun e w'=>e=.returned (.int .i64 (stE (andF f g)))∧Below W.heap.size W w'):=fun W hW=>check_st (andF f g) ⟨.slice none 0 0,.slice none 0 0,.slice (some ⟨w1.heap.size,0,none⟩) 2 2,.slice none 0 0⟩ W (hA.below hW)
 have cF:Hid (∀ W:World,Below W0.heap.size W0 W→Calls Tryz.prog 12 #[.agg #[.int .i64 f.k,.string f.nm,.int .i64 f.op,.slice pv1 f.vars.length cv1,.slice pt1 f.terms.length ct1,.int .i64 f.lo,.int .i64 f.hi,.bool f.opn,.slice ps1 f.subs.length cs1,.slice pr1 f.rgx.length cr1]] W fun e w'=>e=.returned (.int .i64 (stE f))∧Below W.heap.size W w'):=fun W hW=>check_st f ⟨.slice pv1 f.vars.length cv1,.slice pt1 f.terms.length ct1,.slice ps1 f.subs.length cs1,.slice pr1 f.rgx.length cr1⟩ W (HF.out W (K0.trans (hW.mono K0.size)))
 have cC:Hid (∀ W:World,Below W0.heap.size W0 W→Calls Tryz.prog 14 #[.agg #[.int .i64 f.k,.string f.nm,.int .i64 f.op,.slice pv1 f.vars.length cv1,.slice pt1 f.terms.length ct1,.int .i64 f.lo,.int .i64 f.hi,.bool f.opn,.slice ps1 f.subs.length cs1,.slice pr1 f.rgx.length cr1],.agg #[.int .i64 g.k,.string g.nm,.int .i64 g.op,.slice pv2 g.vars.length cv2,.slice pt2 g.terms.length ct2,.int .i64 g.lo,.int .i64 g.hi,.bool g.opn,.slice ps2 g.subs.length cs2,.slice pr2 g.rgx.length cr2]] W fun e w'=>e=.returned (.int .i64 (stC f g))∧Below W.heap.size W w'):=fun W hW=>case_st f g ⟨.slice pv1 f.vars.length cv1,.slice pt1 f.terms.length ct1,.slice ps1 f.subs.length cs1,.slice pr1 f.rgx.length cr1⟩ ⟨.slice pv2 g.vars.length cv2,.slice pt2 g.terms.length ct2,.slice ps2 g.subs.length cs2,.slice pr2 g.rgx.length cr2⟩ W (HF.out W (K0.trans (hW.mono K0.size))) (HG.out W (K0.trans (hW.mono K0.size)))
 have hlaw:Hid (chkF (andF f g)=0→decide (stE (andF f g)=0)=(decide (stE f=0) && decide (0<stC f g))):=fun h=>and_law h
 have hno:Hid (chkF (andF f g)≠0→stC f g=0):=fun h=>by unfold stC;rw [if_neg h]
 have hge:0≤stC f g:=by
  unfold stC
  split
  ·exact caseP_pos _ _
  ·decide
 clear hA HF HG X1 Y1 kA K1 S0
 generalize stE (andF f g)=SA at*
 generalize chkF (andF f g)=C at*
 generalize stC f g=SC at*
 generalize stE f=SF at*
 generalize f.vars.length=nv1 at*
 generalize f.terms.length=nt1 at*
 generalize f.subs.length=ns1 at*
 generalize f.rgx.length=nr1 at*
 generalize f.nm=nm1 at*
 generalize f.op=op1 at*
 generalize f.lo=lo1 at*
 generalize f.hi=hi1 at*
 generalize f.opn=o1 at*
 generalize f.k=k1 at*
 generalize g.vars.length=nv2 at*
 generalize g.terms.length=nt2 at*
 generalize g.subs.length=ns2 at*
 generalize g.rgx.length=nr2 at*
 generalize g.nm=nm2 at*
 generalize g.op=op2 at*
 generalize g.lo=lo2 at*
 generalize g.hi=hi2 at*
 generalize g.opn=o2 at*
 generalize g.k=k2 at*
 have x0:W0.cell? ⟨w.heap.size,0,none⟩=some (.int .i64 k1):=by rw [Lib.cell_of_heap X0.out];rfl
 have x1:W0.cell? ⟨w.heap.size,1,none⟩=some (.string nm1):=by rw [Lib.cell_of_heap X0.out];rfl
 have x2:W0.cell? ⟨w.heap.size,2,none⟩=some (.int .i64 op1):=by rw [Lib.cell_of_heap X0.out];rfl
 have x3:W0.cell? ⟨w.heap.size,3,none⟩=some (.slice pv1 nv1 cv1):=by rw [Lib.cell_of_heap X0.out];rfl
 have x4:W0.cell? ⟨w.heap.size,4,none⟩=some (.slice pt1 nt1 ct1):=by rw [Lib.cell_of_heap X0.out];rfl
 have x5:W0.cell? ⟨w.heap.size,5,none⟩=some (.int .i64 lo1):=by rw [Lib.cell_of_heap X0.out];rfl
 have x6:W0.cell? ⟨w.heap.size,6,none⟩=some (.int .i64 hi1):=by rw [Lib.cell_of_heap X0.out];rfl
 have x7:W0.cell? ⟨w.heap.size,7,none⟩=some (.bool o1):=by rw [Lib.cell_of_heap X0.out];rfl
 have x8:W0.cell? ⟨w.heap.size,8,none⟩=some (.slice ps1 ns1 cs1):=by rw [Lib.cell_of_heap X0.out];rfl
 have x9:W0.cell? ⟨w.heap.size,9,none⟩=some (.slice pr1 nr1 cr1):=by rw [Lib.cell_of_heap X0.out];rfl
 have y0:W0.cell? ⟨w.heap.size+1,0,none⟩=some (.int .i64 k2):=by rw [Lib.cell_of_heap Y0.out];rfl
 have y1:W0.cell? ⟨w.heap.size+1,1,none⟩=some (.string nm2):=by rw [Lib.cell_of_heap Y0.out];rfl
 have y2:W0.cell? ⟨w.heap.size+1,2,none⟩=some (.int .i64 op2):=by rw [Lib.cell_of_heap Y0.out];rfl
 have y3:W0.cell? ⟨w.heap.size+1,3,none⟩=some (.slice pv2 nv2 cv2):=by rw [Lib.cell_of_heap Y0.out];rfl
 have y4:W0.cell? ⟨w.heap.size+1,4,none⟩=some (.slice pt2 nt2 ct2):=by rw [Lib.cell_of_heap Y0.out];rfl
 have y5:W0.cell? ⟨w.heap.size+1,5,none⟩=some (.int .i64 lo2):=by rw [Lib.cell_of_heap Y0.out];rfl
 have y6:W0.cell? ⟨w.heap.size+1,6,none⟩=some (.int .i64 hi2):=by rw [Lib.cell_of_heap Y0.out];rfl
 have y7:W0.cell? ⟨w.heap.size+1,7,none⟩=some (.bool o2):=by rw [Lib.cell_of_heap Y0.out];rfl
 have y8:W0.cell? ⟨w.heap.size+1,8,none⟩=some (.slice ps2 ns2 cs2):=by rw [Lib.cell_of_heap Y0.out];rfl
 have y9:W0.cell? ⟨w.heap.size+1,9,none⟩=some (.slice pr2 nr2 cr2):=by rw [Lib.cell_of_heap Y0.out];rfl
 have z0:W0.cell? ⟨w1.heap.size+1,0,none⟩=some (.int .i64 8):=by rw [Lib.cell_of_heap Z0.out];rfl
 have z1:W0.cell? ⟨w1.heap.size+1,1,none⟩=some (.string ⟨#[]⟩):=by rw [Lib.cell_of_heap Z0.out];rfl
 have z2:W0.cell? ⟨w1.heap.size+1,2,none⟩=some (.int .i64 0):=by rw [Lib.cell_of_heap Z0.out];rfl
 have z3:W0.cell? ⟨w1.heap.size+1,3,none⟩=some (.slice none 0 0):=by rw [Lib.cell_of_heap Z0.out];rfl
 have z4:W0.cell? ⟨w1.heap.size+1,4,none⟩=some (.slice none 0 0):=by rw [Lib.cell_of_heap Z0.out];rfl
 have z5:W0.cell? ⟨w1.heap.size+1,5,none⟩=some (.int .i64 0):=by rw [Lib.cell_of_heap Z0.out];rfl
 have z6:W0.cell? ⟨w1.heap.size+1,6,none⟩=some (.int .i64 0):=by rw [Lib.cell_of_heap Z0.out];rfl
 have z7:W0.cell? ⟨w1.heap.size+1,7,none⟩=some (.bool false):=by rw [Lib.cell_of_heap Z0.out];rfl
 have z8:W0.cell? ⟨w1.heap.size+1,8,none⟩=some (.slice (some ⟨w1.heap.size,0,none⟩) 2 2):=by rw [Lib.cell_of_heap Z0.out];rfl
 have z9:W0.cell? ⟨w1.heap.size+1,9,none⟩=some (.slice none 0 0):=by rw [Lib.cell_of_heap Z0.out];rfl
 have l2:=blkLt Z0.out
 have l0:=blkLt X0.out
 have l1:=blkLt Y0.out
 go_wp2_with fail
 refine (cK.out W0 (Below.refl _ _)).mono ?_
 rintro e w3 ⟨rfl,kB⟩
 have X3:Hid (_):=blkC X0.out kB
 have Y3:Hid (_):=blkC Y0.out kB
 have Z3:Hid (_):=blkC Z0.out kB
 clear X0 Y0 Z0 cK x0 x1 x2 x3 x4 x5 x6 x7 x8 x9 y0 y1 y2 y3 y4 y5 y6 y7 y8 y9 z0 z1 z2 z3 z4 z5 z6 z7 z8 z9
 have x0:w3.cell? ⟨w.heap.size,0,none⟩=some (.int .i64 k1):=by rw [Lib.cell_of_heap X3.out];rfl
 have x1:w3.cell? ⟨w.heap.size,1,none⟩=some (.string nm1):=by rw [Lib.cell_of_heap X3.out];rfl
 have x2:w3.cell? ⟨w.heap.size,2,none⟩=some (.int .i64 op1):=by rw [Lib.cell_of_heap X3.out];rfl
 have x3:w3.cell? ⟨w.heap.size,3,none⟩=some (.slice pv1 nv1 cv1):=by rw [Lib.cell_of_heap X3.out];rfl
 have x4:w3.cell? ⟨w.heap.size,4,none⟩=some (.slice pt1 nt1 ct1):=by rw [Lib.cell_of_heap X3.out];rfl
 have x5:w3.cell? ⟨w.heap.size,5,none⟩=some (.int .i64 lo1):=by rw [Lib.cell_of_heap X3.out];rfl
 have x6:w3.cell? ⟨w.heap.size,6,none⟩=some (.int .i64 hi1):=by rw [Lib.cell_of_heap X3.out];rfl
 have x7:w3.cell? ⟨w.heap.size,7,none⟩=some (.bool o1):=by rw [Lib.cell_of_heap X3.out];rfl
 have x8:w3.cell? ⟨w.heap.size,8,none⟩=some (.slice ps1 ns1 cs1):=by rw [Lib.cell_of_heap X3.out];rfl
 have x9:w3.cell? ⟨w.heap.size,9,none⟩=some (.slice pr1 nr1 cr1):=by rw [Lib.cell_of_heap X3.out];rfl
 have y0:w3.cell? ⟨w.heap.size+1,0,none⟩=some (.int .i64 k2):=by rw [Lib.cell_of_heap Y3.out];rfl
 have y1:w3.cell? ⟨w.heap.size+1,1,none⟩=some (.string nm2):=by rw [Lib.cell_of_heap Y3.out];rfl
 have y2:w3.cell? ⟨w.heap.size+1,2,none⟩=some (.int .i64 op2):=by rw [Lib.cell_of_heap Y3.out];rfl
 have y3:w3.cell? ⟨w.heap.size+1,3,none⟩=some (.slice pv2 nv2 cv2):=by rw [Lib.cell_of_heap Y3.out];rfl
 have y4:w3.cell? ⟨w.heap.size+1,4,none⟩=some (.slice pt2 nt2 ct2):=by rw [Lib.cell_of_heap Y3.out];rfl
 have y5:w3.cell? ⟨w.heap.size+1,5,none⟩=some (.int .i64 lo2):=by rw [Lib.cell_of_heap Y3.out];rfl
 have y6:w3.cell? ⟨w.heap.size+1,6,none⟩=some (.int .i64 hi2):=by rw [Lib.cell_of_heap Y3.out];rfl
 have y7:w3.cell? ⟨w.heap.size+1,7,none⟩=some (.bool o2):=by rw [Lib.cell_of_heap Y3.out];rfl
 have y8:w3.cell? ⟨w.heap.size+1,8,none⟩=some (.slice ps2 ns2 cs2):=by rw [Lib.cell_of_heap Y3.out];rfl
 have y9:w3.cell? ⟨w.heap.size+1,9,none⟩=some (.slice pr2 nr2 cr2):=by rw [Lib.cell_of_heap Y3.out];rfl
 have z0:w3.cell? ⟨w1.heap.size+1,0,none⟩=some (.int .i64 8):=by rw [Lib.cell_of_heap Z3.out];rfl
 have z1:w3.cell? ⟨w1.heap.size+1,1,none⟩=some (.string ⟨#[]⟩):=by rw [Lib.cell_of_heap Z3.out];rfl
 have z2:w3.cell? ⟨w1.heap.size+1,2,none⟩=some (.int .i64 0):=by rw [Lib.cell_of_heap Z3.out];rfl
 have z3:w3.cell? ⟨w1.heap.size+1,3,none⟩=some (.slice none 0 0):=by rw [Lib.cell_of_heap Z3.out];rfl
 have z4:w3.cell? ⟨w1.heap.size+1,4,none⟩=some (.slice none 0 0):=by rw [Lib.cell_of_heap Z3.out];rfl
 have z5:w3.cell? ⟨w1.heap.size+1,5,none⟩=some (.int .i64 0):=by rw [Lib.cell_of_heap Z3.out];rfl
 have z6:w3.cell? ⟨w1.heap.size+1,6,none⟩=some (.int .i64 0):=by rw [Lib.cell_of_heap Z3.out];rfl
 have z7:w3.cell? ⟨w1.heap.size+1,7,none⟩=some (.bool false):=by rw [Lib.cell_of_heap Z3.out];rfl
 have z8:w3.cell? ⟨w1.heap.size+1,8,none⟩=some (.slice (some ⟨w1.heap.size,0,none⟩) 2 2):=by rw [Lib.cell_of_heap Z3.out];rfl
 have z9:w3.cell? ⟨w1.heap.size+1,9,none⟩=some (.slice none 0 0):=by rw [Lib.cell_of_heap Z3.out];rfl
 have m0:=blkLt X3.out
 have m1:=blkLt Y3.out
 have m2:=blkLt Z3.out
 by_cases hc:C=0
 case neg=>
  have hne:(C != 0)=true:=by simp [hc]
  have h0:SC=0:=hno.out hc
  subst h0
  clear hlaw hno cA cF
  go_wp2_with fail
  refine (cC.out w3 kB).mono ?_
  rintro e w4 ⟨rfl,kC⟩
  have K4:Below w.heap.size w w4:=(K0.trans (kB.mono K0.size)).trans (kC.mono (by have:=K0.size;have:=kB.size;omega))
  clear x0 x1 x2 x3 x4 x5 x6 x7 x8 x9 y0 y1 y2 y3 y4 y5 y6 y7 y8 y9 z0 z1 z2 z3 z4 z5 z6 z7 z8 z9
  go_wp2
  go_ret
  exact ⟨rfl,K4⟩
 case pos=>
  subst hc
  have h1:=hlaw.out rfl
  have zw:=kB.size
  clear hlaw hno Y3
  go_upto_region 5 with fail
  by_cases hF:SF=0
  ·subst hF
   by_cases hC:0<SC
   ·have hA0:SA=0:=by simpa [hC] using h1
    subst hA0
    clear h1
    go_region_held3 (fun W=>W.cell? ⟨w.heap.size,0,none⟩=some (.int .i64 k1)∧W.cell? ⟨w.heap.size,1,none⟩=some (.string nm1)∧W.cell? ⟨w.heap.size,2,none⟩=some (.int .i64 op1)∧W.cell? ⟨w.heap.size,3,none⟩=some (.slice pv1 nv1 cv1)∧W.cell? ⟨w.heap.size,4,none⟩=some (.slice pt1 nt1 ct1)∧W.cell? ⟨w.heap.size,5,none⟩=some (.int .i64 lo1)∧W.cell? ⟨w.heap.size,6,none⟩=some (.int .i64 hi1)∧W.cell? ⟨w.heap.size,7,none⟩=some (.bool o1)∧W.cell? ⟨w.heap.size,8,none⟩=some (.slice ps1 ns1 cs1)∧W.cell? ⟨w.heap.size,9,none⟩=some (.slice pr1 nr1 cr1)∧W.cell? ⟨w.heap.size+1,0,none⟩=some (.int .i64 k2)∧W.cell? ⟨w.heap.size+1,1,none⟩=some (.string nm2)∧W.cell? ⟨w.heap.size+1,2,none⟩=some (.int .i64 op2)∧W.cell? ⟨w.heap.size+1,3,none⟩=some (.slice pv2 nv2 cv2)∧W.cell? ⟨w.heap.size+1,4,none⟩=some (.slice pt2 nt2 ct2)∧W.cell? ⟨w.heap.size+1,5,none⟩=some (.int .i64 lo2)∧W.cell? ⟨w.heap.size+1,6,none⟩=some (.int .i64 hi2)∧W.cell? ⟨w.heap.size+1,7,none⟩=some (.bool o2)∧W.cell? ⟨w.heap.size+1,8,none⟩=some (.slice ps2 ns2 cs2)∧W.cell? ⟨w.heap.size+1,9,none⟩=some (.slice pr2 nr2 cr2)∧W.cell? ⟨w1.heap.size+1,0,none⟩=some (.int .i64 8)∧W.cell? ⟨w1.heap.size+1,1,none⟩=some (.string ⟨#[]⟩)∧W.cell? ⟨w1.heap.size+1,2,none⟩=some (.int .i64 0)∧W.cell? ⟨w1.heap.size+1,3,none⟩=some (.slice none 0 0)∧W.cell? ⟨w1.heap.size+1,4,none⟩=some (.slice none 0 0)∧W.cell? ⟨w1.heap.size+1,5,none⟩=some (.int .i64 0)∧W.cell? ⟨w1.heap.size+1,6,none⟩=some (.int .i64 0)∧W.cell? ⟨w1.heap.size+1,7,none⟩=some (.bool false)∧W.cell? ⟨w1.heap.size+1,8,none⟩=some (.slice (some ⟨w1.heap.size,0,none⟩) 2 2)∧W.cell? ⟨w1.heap.size+1,9,none⟩=some (.slice none 0 0)) (exact ⟨bcl (n:=w3.heap.size) (by go_grown) x0 m0,bcl (n:=w3.heap.size) (by go_grown) x1 m0,bcl (n:=w3.heap.size) (by go_grown) x2 m0,bcl (n:=w3.heap.size) (by go_grown) x3 m0,bcl (n:=w3.heap.size) (by go_grown) x4 m0,bcl (n:=w3.heap.size) (by go_grown) x5 m0,bcl (n:=w3.heap.size) (by go_grown) x6 m0,bcl (n:=w3.heap.size) (by go_grown) x7 m0,bcl (n:=w3.heap.size) (by go_grown) x8 m0,bcl (n:=w3.heap.size) (by go_grown) x9 m0,bcl (n:=w3.heap.size) (by go_grown) y0 m1,bcl (n:=w3.heap.size) (by go_grown) y1 m1,bcl (n:=w3.heap.size) (by go_grown) y2 m1,bcl (n:=w3.heap.size) (by go_grown) y3 m1,bcl (n:=w3.heap.size) (by go_grown) y4 m1,bcl (n:=w3.heap.size) (by go_grown) y5 m1,bcl (n:=w3.heap.size) (by go_grown) y6 m1,bcl (n:=w3.heap.size) (by go_grown) y7 m1,bcl (n:=w3.heap.size) (by go_grown) y8 m1,bcl (n:=w3.heap.size) (by go_grown) y9 m1,bcl (n:=w3.heap.size) (by go_grown) z0 m2,bcl (n:=w3.heap.size) (by go_grown) z1 m2,bcl (n:=w3.heap.size) (by go_grown) z2 m2,bcl (n:=w3.heap.size) (by go_grown) z3 m2,bcl (n:=w3.heap.size) (by go_grown) z4 m2,bcl (n:=w3.heap.size) (by go_grown) z5 m2,bcl (n:=w3.heap.size) (by go_grown) z6 m2,bcl (n:=w3.heap.size) (by go_grown) z7 m2,bcl (n:=w3.heap.size) (by go_grown) z8 m2,bcl (n:=w3.heap.size) (by go_grown) z9 m2⟩) (first
     | (go_at_call_of 12 (Value.int .i64 8);refine (cA.out _ (kB.trans (Below.mono (B:=w3.heap.size) (by go_grown) zw))).mono ?_;rintro e_ v1 ⟨rfl,hb1⟩;obtain ⟨hX1,hn1⟩:=bgX (n:=w3.heap.size) (W0:=w3) (by go_grown) (by go_size) hb1)
     | (go_at_call 12;refine (cF.out _ (kB.trans (Below.mono (B:=w3.heap.size) (by go_grown) zw))).mono ?_;rintro e_ v2 ⟨rfl,hb2⟩;obtain ⟨hX2,hn2⟩:=bgX (n:=w3.heap.size) (W0:=w3) (by go_grown) (by go_size) hb2)
     | (go_at_call 14;refine (cC.out _ (kB.trans (Below.mono (B:=w3.heap.size) (by go_grown) zw))).mono ?_;rintro e_ v3 ⟨rfl,hb3⟩;obtain ⟨hX3,hn3⟩:=bgX (n:=w3.heap.size) (W0:=w3) (by go_grown) (by go_size) hb3))
    all_goals
     go_wp2
     go_ret
     exact ⟨by first | rfl | simp [*],(K0.trans (kB.mono K0.size)).trans (Below.mono (B:=w3.heap.size) (by first | assumption | go_grown) (by have:=K0.size;omega))⟩
   ·have hC0:SC=0:=by omega
    have hA0:(SA==0)=false:=by simpa [hC] using h1
    subst hC0
    clear h1 hC
    go_region_held3 (fun W=>W.cell? ⟨w.heap.size,0,none⟩=some (.int .i64 k1)∧W.cell? ⟨w.heap.size,1,none⟩=some (.string nm1)∧W.cell? ⟨w.heap.size,2,none⟩=some (.int .i64 op1)∧W.cell? ⟨w.heap.size,3,none⟩=some (.slice pv1 nv1 cv1)∧W.cell? ⟨w.heap.size,4,none⟩=some (.slice pt1 nt1 ct1)∧W.cell? ⟨w.heap.size,5,none⟩=some (.int .i64 lo1)∧W.cell? ⟨w.heap.size,6,none⟩=some (.int .i64 hi1)∧W.cell? ⟨w.heap.size,7,none⟩=some (.bool o1)∧W.cell? ⟨w.heap.size,8,none⟩=some (.slice ps1 ns1 cs1)∧W.cell? ⟨w.heap.size,9,none⟩=some (.slice pr1 nr1 cr1)∧W.cell? ⟨w.heap.size+1,0,none⟩=some (.int .i64 k2)∧W.cell? ⟨w.heap.size+1,1,none⟩=some (.string nm2)∧W.cell? ⟨w.heap.size+1,2,none⟩=some (.int .i64 op2)∧W.cell? ⟨w.heap.size+1,3,none⟩=some (.slice pv2 nv2 cv2)∧W.cell? ⟨w.heap.size+1,4,none⟩=some (.slice pt2 nt2 ct2)∧W.cell? ⟨w.heap.size+1,5,none⟩=some (.int .i64 lo2)∧W.cell? ⟨w.heap.size+1,6,none⟩=some (.int .i64 hi2)∧W.cell? ⟨w.heap.size+1,7,none⟩=some (.bool o2)∧W.cell? ⟨w.heap.size+1,8,none⟩=some (.slice ps2 ns2 cs2)∧W.cell? ⟨w.heap.size+1,9,none⟩=some (.slice pr2 nr2 cr2)∧W.cell? ⟨w1.heap.size+1,0,none⟩=some (.int .i64 8)∧W.cell? ⟨w1.heap.size+1,1,none⟩=some (.string ⟨#[]⟩)∧W.cell? ⟨w1.heap.size+1,2,none⟩=some (.int .i64 0)∧W.cell? ⟨w1.heap.size+1,3,none⟩=some (.slice none 0 0)∧W.cell? ⟨w1.heap.size+1,4,none⟩=some (.slice none 0 0)∧W.cell? ⟨w1.heap.size+1,5,none⟩=some (.int .i64 0)∧W.cell? ⟨w1.heap.size+1,6,none⟩=some (.int .i64 0)∧W.cell? ⟨w1.heap.size+1,7,none⟩=some (.bool false)∧W.cell? ⟨w1.heap.size+1,8,none⟩=some (.slice (some ⟨w1.heap.size,0,none⟩) 2 2)∧W.cell? ⟨w1.heap.size+1,9,none⟩=some (.slice none 0 0)) (exact ⟨bcl (n:=w3.heap.size) (by go_grown) x0 m0,bcl (n:=w3.heap.size) (by go_grown) x1 m0,bcl (n:=w3.heap.size) (by go_grown) x2 m0,bcl (n:=w3.heap.size) (by go_grown) x3 m0,bcl (n:=w3.heap.size) (by go_grown) x4 m0,bcl (n:=w3.heap.size) (by go_grown) x5 m0,bcl (n:=w3.heap.size) (by go_grown) x6 m0,bcl (n:=w3.heap.size) (by go_grown) x7 m0,bcl (n:=w3.heap.size) (by go_grown) x8 m0,bcl (n:=w3.heap.size) (by go_grown) x9 m0,bcl (n:=w3.heap.size) (by go_grown) y0 m1,bcl (n:=w3.heap.size) (by go_grown) y1 m1,bcl (n:=w3.heap.size) (by go_grown) y2 m1,bcl (n:=w3.heap.size) (by go_grown) y3 m1,bcl (n:=w3.heap.size) (by go_grown) y4 m1,bcl (n:=w3.heap.size) (by go_grown) y5 m1,bcl (n:=w3.heap.size) (by go_grown) y6 m1,bcl (n:=w3.heap.size) (by go_grown) y7 m1,bcl (n:=w3.heap.size) (by go_grown) y8 m1,bcl (n:=w3.heap.size) (by go_grown) y9 m1,bcl (n:=w3.heap.size) (by go_grown) z0 m2,bcl (n:=w3.heap.size) (by go_grown) z1 m2,bcl (n:=w3.heap.size) (by go_grown) z2 m2,bcl (n:=w3.heap.size) (by go_grown) z3 m2,bcl (n:=w3.heap.size) (by go_grown) z4 m2,bcl (n:=w3.heap.size) (by go_grown) z5 m2,bcl (n:=w3.heap.size) (by go_grown) z6 m2,bcl (n:=w3.heap.size) (by go_grown) z7 m2,bcl (n:=w3.heap.size) (by go_grown) z8 m2,bcl (n:=w3.heap.size) (by go_grown) z9 m2⟩) (first
     | (go_at_call_of 12 (Value.int .i64 8);refine (cA.out _ (kB.trans (Below.mono (B:=w3.heap.size) (by go_grown) zw))).mono ?_;rintro e_ v1 ⟨rfl,hb1⟩;obtain ⟨hX1,hn1⟩:=bgX (n:=w3.heap.size) (W0:=w3) (by go_grown) (by go_size) hb1)
     | (go_at_call 12;refine (cF.out _ (kB.trans (Below.mono (B:=w3.heap.size) (by go_grown) zw))).mono ?_;rintro e_ v2 ⟨rfl,hb2⟩;obtain ⟨hX2,hn2⟩:=bgX (n:=w3.heap.size) (W0:=w3) (by go_grown) (by go_size) hb2)
     | (go_at_call 14;refine (cC.out _ (kB.trans (Below.mono (B:=w3.heap.size) (by go_grown) zw))).mono ?_;rintro e_ v3 ⟨rfl,hb3⟩;obtain ⟨hX3,hn3⟩:=bgX (n:=w3.heap.size) (W0:=w3) (by go_grown) (by go_size) hb3))
    all_goals
     go_wp2
     go_ret
     exact ⟨by first | rfl | simp [*],(K0.trans (kB.mono K0.size)).trans (Below.mono (B:=w3.heap.size) (by first | assumption | go_grown) (by have:=K0.size;omega))⟩
  ·have hF0:(SF==0)=false:=beq_eq_false_iff_ne.2 hF
   have hA0:(SA==0)=false:=by simpa [hF] using h1
   clear h1 hF
   go_region_with (first
    | (go_at_call_of 12 (Value.int .i64 8);refine (cA.out _ (kB.trans (Below.mono (B:=w3.heap.size) (by go_grown) zw))).mono ?_;rintro e_ v1 ⟨rfl,hb1⟩;obtain ⟨hX1,hn1⟩:=bgX (n:=w3.heap.size) (W0:=w3) (by go_grown) (by go_size) hb1;obtain ⟨p0,p1,p2,p3,p4,p5,p6,p7,p8,p9⟩:=box10 ((hX1.block _ m0).trans X3.out))
    | (go_at_call 12;refine (cF.out _ (kB.trans (Below.mono (B:=w3.heap.size) (by go_grown) zw))).mono ?_;rintro e_ v2 ⟨rfl,hb2⟩;obtain ⟨hX2,hn2⟩:=bgX (n:=w3.heap.size) (W0:=w3) (by go_grown) (by go_size) hb2;obtain ⟨q0,q1,q2,q3,q4,q5,q6,q7,q8,q9⟩:=box10 ((hX2.block _ m2).trans Z3.out)))
   all_goals
    go_wp2
    go_ret
    exact ⟨by first | rfl | simp [*],(K0.trans (kB.mono K0.size)).trans (Below.mono (B:=w3.heap.size) (by first | assumption | go_grown) (by have:=K0.size;omega))⟩
end Go.Proofs.YthodedagbbifbaaGreat
