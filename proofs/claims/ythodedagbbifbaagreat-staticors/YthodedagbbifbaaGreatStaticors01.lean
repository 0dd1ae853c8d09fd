/- What staticOrs_holds needs besides. -/
import Derived.Test.YthodedagbbifbaaGreatZ09
set_option maxRecDepth 100000
set_option maxHeartbeats 16000000
namespace Go.Proofs.YthodedagbbifbaaGreat
open Go.RowKit LX Go.Shelf
set_option linter.unusedVariables false
def orF (g h:Fm):Fm:=.mk 9 ⟨#[]⟩ 0 [] [] 0 0 false [g,h] []
theorem pts_or (g h:Fm):ptsF (orF g h)=[g,h]:=rfl
theorem or_chk {g h:Fm} (hc:chkF (orF g h)=0):chkF g=0∧chkF h=0:=
 ⟨(part_chk hc (i:=0) (by rw [pts_or];simp)).1,(part_chk hc (i:=1) (by rw [pts_or];simp)).1⟩
theorem prt_or (g h:Fm):prtF (orF g h) []=mkP [] (orF g h) [prtF g [],prtF h []]:=by
 rw [prtF_eq]
 show mkP [] (orF g h) (prtRs [] []++prtFs [g,h] [])=_
 rw [prtRs,prtFs,prtFs,prtFs]
 rfl
theorem or_law {g h:Fm} (hc:chkF (orF g h)=0):decide (stE (orF g h)=0)=(decide ((fre g).1=(fre h).1) && (decide (stE g=0) && decide (stE h=0))):=by
 obtain ⟨cg,ch⟩:=or_chk hc
 have vg:∀ f,chkF f=0→(prtF f []).about.vars=(fre f).1:=fun f hf=>by
  rw [prtF_eq]
  unfold mkP
  have e:varF f=(fre f).1:=by unfold varF;rw [if_pos hf]
  split
  ·exact e
  ·split
   ·exact e
   ·exact e
 have e1:(prtF (orF g h) []).about.acc=(accP [prtF g [],prtF h []] && decide ((prtF g []).about.vars=(prtF h []).about.vars)):=by rw [prt_or];rfl
 rw [vg g cg,vg h ch] at e1
 unfold stE
 rw [if_pos hc,if_pos cg,if_pos ch,e1]
 have e2:accP [prtF g [],prtF h []]=((prtF g []).about.acc && (prtF h []).about.acc):=by simp [accP]
 rw [e2]
 generalize (prtF g []).about.acc=x
 generalize (prtF h []).about.acc=y
 clear e1 e2 vg
 cases x<;>cases y<;>by_cases hv:(fre g).1=(fre h).1<;>simp [hv]
theorem fits_or {W:World} {b:Nat} {f g:Fm} {q r:FQ} (hb:b<W.heap.size) (hq:QAt W (f,q)) (hr:QAt W (g,r)) (hc:FmC W b 0 f q.v q.t q.s q.r) (hd:FmC W b 10 g r.v r.t r.s r.r):QAt W (orF f g,⟨.slice none 0 0,.slice none 0 0,.slice (some ⟨b,0,none⟩) 2 2,.slice none 0 0⟩):=
 ⟨nms_nil _,.nil,fms_two hb hq hr hc hd,.nil⟩
def alk (n:Bool):List ByteArray→List ByteArray→Bool
 | [],_=>n
 | _::_,[]=>n
 | x::l,y::m=>alk (n && decide (x=y)) l m
theorem alk_false:∀ l m,alk false l m=false
 | [],_=>by rw [alk]
 | _::_,[]=>by rw [alk]
 | x::l,y::m=>by rw [alk,Bool.false_and];exact alk_false l m
theorem alk_eq:∀ l m:List ByteArray,alk (decide (l.length=m.length)) l m=decide (l=m)
 | [],[]=>by simp [alk]
 | [],y::m=>by simp [alk]
 | x::l,[]=>by simp [alk]
 | x::l,y::m=>by
  rw [alk]
  by_cases h:x=y
  ·subst h
   have e:decide ((x::l).length=(x::m).length)=decide (l.length=m.length):=by simp
   rw [decide_eq_true rfl,Bool.and_true,e,alk_eq l m]
   simp
  ·rw [decide_eq_false h,Bool.and_false,alk_false]
   simp [h]
theorem sors_any (f g:Fm) (q r:FQ) (w:World) (hq:QAt w (f,q)) (hr:QAt w (g,r)):
  Calls Tryz.prog 8 #[.agg #[.int .i64 f.k,.string f.nm,.int .i64 f.op,q.v,q.t,.int .i64 f.lo,.int .i64 f.hi,.bool f.opn,q.s,q.r],.agg #[.int .i64 g.k,.string g.nm,.int .i64 g.op,r.v,r.t,.int .i64 g.lo,.int .i64 g.hi,.bool g.opn,r.s,r.r]] w fun e w'=>e=.returned (.bool true)∧Below w.heap.size w w':=by
 have HF:Hid (∀ W:World,Below w.heap.size w W→QAt W (f,q)):=fun W hW=>hq.below hW
 have HG:Hid (∀ W:World,Below w.heap.size w W→QAt W (g,r)):=fun W hW=>hr.below hW
 obtain ⟨uv,ut,us,ur⟩:=q
 obtain ⟨tv,tt,ts,tr⟩:=r
 have hq2:=sfm_forms hq
 have hr2:=sfm_forms hr
 dsimp only at hq2 hr2
 obtain ⟨⟨pv1,cv1,rfl⟩,⟨pt1,ct1,rfl⟩,⟨ps1,cs1,rfl⟩,⟨pr1,cr1,rfl⟩⟩:=hq2
 obtain ⟨⟨pv2,cv2,rfl⟩,⟨pt2,ct2,rfl⟩,⟨ps2,cs2,rfl⟩,⟨pr2,cr2,rfl⟩⟩:=hr2
 clear hq hr
 dsimp only
 go_enter Tryz.func8,Tryz.ntmps8
 go_wp2_with fail
 refine (live10_any _).mono ?_
 rintro e w1 ⟨rfl,hb1⟩
 have K1:Below w.heap.size w w1:=Below.trans (by go_grown) (hb1.mono (by simp;try omega))
 have X1:Hid (w1.heap[w.heap.size]? =_):=(hb1.block w.heap.size (by simp;try omega)).trans (blk2a w _ _)
 have Y1:Hid (w1.heap[w.heap.size+1]? =_):=(hb1.block (w.heap.size+1) (by simp)).trans (blk2b w _ _)
 clear hb1
 have x0:w1.cell? ⟨w.heap.size,0,none⟩=some (.int .i64 f.k):=by rw [Lib.cell_of_heap X1.out];rfl
 have x1:w1.cell? ⟨w.heap.size,1,none⟩=some (.string f.nm):=by rw [Lib.cell_of_heap X1.out];rfl
 have x2:w1.cell? ⟨w.heap.size,2,none⟩=some (.int .i64 f.op):=by rw [Lib.cell_of_heap X1.out];rfl
 have x3:w1.cell? ⟨w.heap.size,3,none⟩=some (.slice pv1 f.vars.length cv1):=by rw [Lib.cell_of_heap X1.out];rfl
 have x4:w1.cell? ⟨w.heap.size,4,none⟩=some (.slice pt1 f.terms.length ct1):=by rw [Lib.cell_of_heap X1.out];rfl
 have x5:w1.cell? ⟨w.heap.size,5,none⟩=some (.int .i64 f.lo):=by rw [Lib.cell_of_heap X1.out];rfl
 have x6:w1.cell? ⟨w.heap.size,6,none⟩=some (.int .i64 f.hi):=by rw [Lib.cell_of_heap X1.out];rfl
 have x7:w1.cell? ⟨w.heap.size,7,none⟩=some (.bool f.opn):=by rw [Lib.cell_of_heap X1.out];rfl
 have x8:w1.cell? ⟨w.heap.size,8,none⟩=some (.slice ps1 f.subs.length cs1):=by rw [Lib.cell_of_heap X1.out];rfl
 have x9:w1.cell? ⟨w.heap.size,9,none⟩=some (.slice pr1 f.rgx.length cr1):=by rw [Lib.cell_of_heap X1.out];rfl
 have y0:w1.cell? ⟨w.heap.size+1,0,none⟩=some (.int .i64 g.k):=by rw [Lib.cell_of_heap Y1.out];rfl
 have y1:w1.cell? ⟨w.heap.size+1,1,none⟩=some (.string g.nm):=by rw [Lib.cell_of_heap Y1.out];rfl
 have y2:w1.cell? ⟨w.heap.size+1,2,none⟩=some (.int .i64 g.op):=by rw [Lib.cell_of_heap Y1.out];rfl
 have y3:w1.cell? ⟨w.heap.size+1,3,none⟩=some (.slice pv2 g.vars.length cv2):=by rw [Lib.cell_of_heap Y1.out];rfl
 have y4:w1.cell? ⟨w.heap.size+1,4,none⟩=some (.slice pt2 g.terms.length ct2):=by rw [Lib.cell_of_heap Y1.out];rfl
 have y5:w1.cell? ⟨w.heap.size+1,5,none⟩=some (.int .i64 g.lo):=by rw [Lib.cell_of_heap Y1.out];rfl
 have y6:w1.cell? ⟨w.heap.size+1,6,none⟩=some (.int .i64 g.hi):=by rw [Lib.cell_of_heap Y1.out];rfl
 have y7:w1.cell? ⟨w.heap.size+1,7,none⟩=some (.bool g.opn):=by rw [Lib.cell_of_heap Y1.out];rfl
 have y8:w1.cell? ⟨w.heap.size+1,8,none⟩=some (.slice ps2 g.subs.length cs2):=by rw [Lib.cell_of_heap Y1.out];rfl
 have y9:w1.cell? ⟨w.heap.size+1,9,none⟩=some (.slice pr2 g.rgx.length cr2):=by rw [Lib.cell_of_heap Y1.out];rfl
 go_upto_region 3 with fail
 refine wpS_world ?_
 intro W0 hW0
 have kA:Below w1.heap.size w1 W0:=by rw [hW0];go_grown
 have Z0:Hid (W0.heap[w1.heap.size+1]? =some (.cells #[.int .i64 9,.string ⟨#[]⟩,.int .i64 0,.slice none 0 0,.slice none 0 0,.int .i64 0,.int .i64 0,.bool false,.slice (some ⟨w1.heap.size,0,none⟩) 2 2,.slice none 0 0] 29 (0,0))):=by rw [hW0];exact blk2b w1 _ _
 have S0:Hid (W0.heap[w1.heap.size]? =some (.cells #[.int .i64 f.k,.string f.nm,.int .i64 f.op,.slice pv1 f.vars.length cv1,.slice pt1 f.terms.length ct1,.int .i64 f.lo,.int .i64 f.hi,.bool f.opn,.slice ps1 f.subs.length cs1,.slice pr1 f.rgx.length cr1,.int .i64 g.k,.string g.nm,.int .i64 g.op,.slice pv2 g.vars.length cv2,.slice pt2 g.terms.length ct2,.int .i64 g.lo,.int .i64 g.hi,.bool g.opn,.slice ps2 g.subs.length cs2,.slice pr2 g.rgx.length cr2] 29 (0,0))):=by rw [hW0];exact blk2a w1 _ _
 clear hW0 x0 x1 x2 x3 x4 x5 x6 x7 x8 x9 y0 y1 y2 y3 y4 y5 y6 y7 y8 y9
 have K0:Below w.heap.size w W0:=K1.trans (kA.mono K1.size)
 have X0:Hid (W0.heap[w.heap.size]? =some (.cells #[.int .i64 f.k,.string f.nm,.int .i64 f.op,.slice pv1 f.vars.length cv1,.slice pt1 f.terms.length ct1,.int .i64 f.lo,.int .i64 f.hi,.bool f.opn,.slice ps1 f.subs.length cs1,.slice pr1 f.rgx.length cr1] 29 (0,0))):=blkC X1.out kA
 have Y0:Hid (W0.heap[w.heap.size+1]? =some (.cells #[.int .i64 g.k,.string g.nm,.int .i64 g.op,.slice pv2 g.vars.length cv2,.slice pt2 g.terms.length ct2,.int .i64 g.lo,.int .i64 g.hi,.bool g.opn,.slice ps2 g.subs.length cs2,.slice pr2 g.rgx.length cr2] 29 (0,0))):=blkC Y1.out kA
 have hA:QAt W0 (orF f g,⟨.slice none 0 0,.slice none 0 0,.slice (some ⟨w1.heap.size,0,none⟩) 2 2,.slice none 0 0⟩):=fits_or (blkLt S0.out) (HF.out W0 K0) (HG.out W0 K0) (by refine ⟨?_, ?_, ?_, ?_, ?_, ?_, ?_, ?_, ?_, ?_⟩<;>(rw [Lib.cell_of_heap S0.out];rfl)) (by refine ⟨?_, ?_, ?_, ?_, ?_, ?_, ?_, ?_, ?_, ?_⟩<;>(rw [Lib.cell_of_heap S0.out];rfl))
 have cK:Hid (∀ W:World,Below W0.heap.size W0 W→Calls Tryz.prog 18 #[.agg #[.int .i64 9,.string ⟨#[]⟩,.int .i64 0,.slice none 0 0,.slice none 0 0,.int .i64 0,.int .i64 0,.bool false,.slice (some ⟨w1.heap.size,0,none⟩) 2 2,.slice none 0 0]] W fun e w'=>e=.returned (.int .i64 (chkF (orF f g)))∧Below W.heap.size W w'):=fun W hW=>rcheck_fm (orF f g) ⟨.slice none 0 0,.slice none 0 0,.slice (some ⟨w1.heap.size,0,none⟩) 2 2,.slice none 0 0⟩ W (hA.below hW)
 have cA:Hid (∀ W:World,Below W0.heap.size W0 W→Calls Tryz.prog 12 #[.agg #[.int .i64 9,.string ⟨#[]⟩,.int .i64 0,.slice none 0 0,.slice none 0 0,.int .i64 0,.int .i64 0,.bool false,.slice (some ⟨w1.heap.size,0,none⟩) 2 2,.slice none 0 0]] W fun e w'=>e=.returned (.int .i64 (stE (orF f g)))∧Below W.heap.size W w'):=fun W hW=>check_st (orF f g) ⟨.slice none 0 0,.slice none 0 0,.slice (some ⟨w1.heap.size,0,none⟩) 2 2,.slice none 0 0⟩ W (hA.below hW)
 have cF:Hid (∀ W:World,Below W0.heap.size W0 W→Calls Tryz.prog 12 #[.agg #[.int .i64 f.k,.string f.nm,.int .i64 f.op,.slice pv1 f.vars.length cv1,.slice pt1 f.terms.length ct1,.int .i64 f.lo,.int .i64 f.hi,.bool f.opn,.slice ps1 f.subs.length cs1,.slice pr1 f.rgx.length cr1]] W fun e w'=>e=.returned (.int .i64 (stE f))∧Below W.heap.size W w'):=fun W hW=>check_st f ⟨.slice pv1 f.vars.length cv1,.slice pt1 f.terms.length ct1,.slice ps1 f.subs.length cs1,.slice pr1 f.rgx.length cr1⟩ W (HF.out W (K0.trans (hW.mono K0.size)))
 have cG:Hid (∀ W:World,Below W0.heap.size W0 W→Calls Tryz.prog 12 #[.agg #[.int .i64 g.k,.string g.nm,.int .i64 g.op,.slice pv2 g.vars.length cv2,.slice pt2 g.terms.length ct2,.int .i64 g.lo,.int .i64 g.hi,.bool g.opn,.slice ps2 g.subs.length cs2,.slice pr2 g.rgx.length cr2]] W fun e w'=>e=.returned (.int .i64 (stE g))∧Below W.heap.size W w'):=fun W hW=>check_st g ⟨.slice pv2 g.vars.length cv2,.slice pt2 g.terms.length ct2,.slice ps2 g.subs.length cs2,.slice pr2 g.rgx.length cr2⟩ W (HG.out W (K0.trans (hW.mono K0.size)))
 have cV:Hid (∀ W:World,Below W0.heap.size W0 W→Calls Tryz.prog 19 #[.agg #[.int .i64 f.k,.string f.nm,.int .i64 f.op,.slice pv1 f.vars.length cv1,.slice pt1 f.terms.length ct1,.int .i64 f.lo,.int .i64 f.hi,.bool f.opn,.slice ps1 f.subs.length cs1,.slice pr1 f.rgx.length cr1]] W fun e w'=>∃ v,e=.returned v∧OwnN W.heap.size v (varF f) w'∧Below W.heap.size W w'):=fun W hW=>rfree_fm f ⟨.slice pv1 f.vars.length cv1,.slice pt1 f.terms.length ct1,.slice ps1 f.subs.length cs1,.slice pr1 f.rgx.length cr1⟩ W (HF.out W (K0.trans (hW.mono K0.size)))
 have cU:Hid (∀ W:World,Below W0.heap.size W0 W→Calls Tryz.prog 19 #[.agg #[.int .i64 g.k,.string g.nm,.int .i64 g.op,.slice pv2 g.vars.length cv2,.slice pt2 g.terms.length ct2,.int .i64 g.lo,.int .i64 g.hi,.bool g.opn,.slice ps2 g.subs.length cs2,.slice pr2 g.rgx.length cr2]] W fun e w'=>∃ v,e=.returned v∧OwnN W.heap.size v (varF g) w'∧Below W.heap.size W w'):=fun W hW=>rfree_fm g ⟨.slice pv2 g.vars.length cv2,.slice pt2 g.terms.length ct2,.slice ps2 g.subs.length cs2,.slice pr2 g.rgx.length cr2⟩ W (HG.out W (K0.trans (hW.mono K0.size)))
 have hlaw:Hid (chkF (orF f g)=0→decide (stE (orF f g)=0)=(decide (varF f=varF g) && (decide (stE f=0) && decide (stE g=0)))):=fun h=>by
  have h2:=or_law h
  obtain ⟨a,b⟩:=or_chk h
  have e1:varF f=(fre f).1:=by unfold varF;rw [if_pos a]
  have e2:varF g=(fre g).1:=by unfold varF;rw [if_pos b]
  rw [e1,e2]
  exact h2
 have hlen:Hid (chkF (orF f g)=0→(varF f).length≤1000000∧(varF g).length≤1000000):=fun h=>by
  obtain ⟨a,b⟩:=or_chk h
  obtain ⟨a1,a2, -, -⟩:=(chk_iff f).1 a
  obtain ⟨b1,b2, -, -⟩:=(chk_iff g).1 b
  have:=varF_len a1
  have:=varF_len b1
  omega
 clear hA HF HG X1 Y1 kA K1 S0
 generalize stE (orF f g)=SA at*
 generalize chkF (orF f g)=C at*
 generalize stE g=SG at*
 generalize stE f=SF at*
 generalize varF f=VF at*
 generalize varF g=VG at*
 generalize f.vars.length=nv1 at*
 generalize f.terms.length=nt1 at*
 generalize f.subs.length=ns1 at*
 generalize f.rgx.length=nr1 at*
 generalize f.nm=nm1 at*
 generalize f.op=op1 at*
 generalize f.lo=lo1 at*
 generalize f.hi=hi1 at*
 generalize f.opn=o1 at*
 generalize f.k=k1 at*
 generalize g.vars.length=nv2 at*
 generalize g.terms.length=nt2 at*
 generalize g.subs.length=ns2 at*
 generalize g.rgx.length=nr2 at*
 generalize g.nm=nm2 at*
 generalize g.op=op2 at*
 generalize g.lo=lo2 at*
 generalize g.hi=hi2 at*
 generalize g.opn=o2 at*
 generalize g.k=k2 at*
 have x0:W0.cell? ⟨w.heap.size,0,none⟩=some (.int .i64 k1):=by rw [Lib.cell_of_heap X0.out];rfl
 have x1:W0.cell? ⟨w.heap.size,1,none⟩=some (.string nm1):=by rw [Lib.cell_of_heap X0.out];rfl
 have x2:W0.cell? ⟨w.heap.size,2,none⟩=some (.int .i64 op1):=by rw [Lib.cell_of_heap X0.out];rfl
 have x3:W0.cell? ⟨w.heap.size,3,none⟩=some (.slice pv1 nv1 cv1):=by rw [Lib.cell_of_heap X0.out];rfl
 have x4:W0.cell? ⟨w.heap.size,4,none⟩=some (.slice pt1 nt1 ct1):=by rw [Lib.cell_of_heap X0.out];rfl
 have x5:W0.cell? ⟨w.heap.size,5,none⟩=some (.int .i64 lo1):=by rw [Lib.cell_of_heap X0.out];rfl
 have x6:W0.cell? ⟨w.heap.size,6,none⟩=some (.int .i64 hi1):=by rw [Lib.cell_of_heap X0.out];rfl
 have x7:W0.cell? ⟨w.heap.size,7,none⟩=some (.bool o1):=by rw [Lib.cell_of_heap X0.out];rfl
 have x8:W0.cell? ⟨w.heap.size,8,none⟩=some (.slice ps1 ns1 cs1):=by rw [Lib.cell_of_heap X0.out];rfl
 have x9:W0.cell? ⟨w.heap.size,9,none⟩=some (.slice pr1 nr1 cr1):=by rw [Lib.cell_of_heap X0.out];rfl
 have y0:W0.cell? ⟨w.heap.size+1,0,none⟩=some (.int .i64 k2):=by rw [Lib.cell_of_heap Y0.out];rfl
 have y1:W0.cell? ⟨w.heap.size+1,1,none⟩=some (.string nm2):=by rw [Lib.cell_of_heap Y0.out];rfl
 have y2:W0.cell? ⟨w.heap.size+1,2,none⟩=some (.int .i64 op2):=by rw [Lib.cell_of_heap Y0.out];rfl
 have y3:W0.cell? ⟨w.heap.size+1,3,none⟩=some (.slice pv2 nv2 cv2):=by rw [Lib.cell_of_heap Y0.out];rfl
 have y4:W0.cell? ⟨w.heap.size+1,4,none⟩=some (.slice pt2 nt2 ct2):=by rw [Lib.cell_of_heap Y0.out];rfl
 have y5:W0.cell? ⟨w.heap.size+1,5,none⟩=some (.int .i64 lo2):=by rw [Lib.cell_of_heap Y0.out];rfl
 have y6:W0.cell? ⟨w.heap.size+1,6,none⟩=some (.int .i64 hi2):=by rw [Lib.cell_of_heap Y0.out];rfl
 have y7:W0.cell? ⟨w.heap.size+1,7,none⟩=some (.bool o2):=by rw [Lib.cell_of_heap Y0.out];rfl
 have y8:W0.cell? ⟨w.heap.size+1,8,none⟩=some (.slice ps2 ns2 cs2):=by rw [Lib.cell_of_heap Y0.out];rfl
 have y9:W0.cell? ⟨w.heap.size+1,9,none⟩=some (.slice pr2 nr2 cr2):=by rw [Lib.cell_of_heap Y0.out];rfl
 have z0:W0.cell? ⟨w1.heap.size+1,0,none⟩=some (.int .i64 9):=by rw [Lib.cell_of_heap Z0.out];rfl
 have z1:W0.cell? ⟨w1.heap.size+1,1,none⟩=some (.string ⟨#[]⟩):=by rw [Lib.cell_of_heap Z0.out];rfl
 have z2:W0.cell? ⟨w1.heap.size+1,2,none⟩=some (.int .i64 0):=by rw [Lib.cell_of_heap Z0.out];rfl
 have z3:W0.cell? ⟨w1.heap.size+1,3,none⟩=some (.slice none 0 0):=by rw [Lib.cell_of_heap Z0.out];rfl
 have z4:W0.cell? ⟨w1.heap.size+1,4,none⟩=some (.slice none 0 0):=by rw [Lib.cell_of_heap Z0.out];rfl
 have z5:W0.cell? ⟨w1.heap.size+1,5,none⟩=some (.int .i64 0):=by rw [Lib.cell_of_heap Z0.out];rfl
 have z6:W0.cell? ⟨w1.heap.size+1,6,none⟩=some (.int .i64 0):=by rw [Lib.cell_of_heap Z0.out];rfl
 have z7:W0.cell? ⟨w1.heap.size+1,7,none⟩=some (.bool false):=by rw [Lib.cell_of_heap Z0.out];rfl
 have z8:W0.cell? ⟨w1.heap.size+1,8,none⟩=some (.slice (some ⟨w1.heap.size,0,none⟩) 2 2):=by rw [Lib.cell_of_heap Z0.out];rfl
 have z9:W0.cell? ⟨w1.heap.size+1,9,none⟩=some (.slice none 0 0):=by rw [Lib.cell_of_heap Z0.out];rfl
 have l2:=blkLt Z0.out
 have l0:=blkLt X0.out
 have l1:=blkLt Y0.out
 go_wp2_with fail
 refine (cK.out W0 (Below.refl _ _)).mono ?_
 rintro e w3 ⟨rfl,kB⟩
 have X3:Hid (_):=blkC X0.out kB
 have Y3:Hid (_):=blkC Y0.out kB
 have Z3:Hid (_):=blkC Z0.out kB
 clear X0 Y0 Z0 cK l0 l1 l2 x0 x1 x2 x3 x4 x5 x6 x7 x8 x9 y0 y1 y2 y3 y4 y5 y6 y7 y8 y9 z0 z1 z2 z3 z4 z5 z6 z7 z8 z9
 by_cases hc:C=0
 case neg=>
  have hne:(C != 0)=true:=by simp [hc]
  have K4:Below w.heap.size w w3:=K0.trans (kB.mono K0.size)
  clear hlaw hlen cA cF cG cV cU X3 Y3 Z3
  go_wp2
  go_ret
  exact ⟨rfl,K4⟩
 case pos=>
 subst hc
 have h1:=hlaw.out rfl
 obtain ⟨lF,lG⟩:=hlen.out rfl
 clear hlaw hlen
 have x0:w3.cell? ⟨w.heap.size,0,none⟩=some (.int .i64 k1):=by rw [Lib.cell_of_heap X3.out];rfl
 have x1:w3.cell? ⟨w.heap.size,1,none⟩=some (.string nm1):=by rw [Lib.cell_of_heap X3.out];rfl
 have x2:w3.cell? ⟨w.heap.size,2,none⟩=some (.int .i64 op1):=by rw [Lib.cell_of_heap X3.out];rfl
 have x3:w3.cell? ⟨w.heap.size,3,none⟩=some (.slice pv1 nv1 cv1):=by rw [Lib.cell_of_heap X3.out];rfl
 have x4:w3.cell? ⟨w.heap.size,4,none⟩=some (.slice pt1 nt1 ct1):=by rw [Lib.cell_of_heap X3.out];rfl
 have x5:w3.cell? ⟨w.heap.size,5,none⟩=some (.int .i64 lo1):=by rw [Lib.cell_of_heap X3.out];rfl
 have x6:w3.cell? ⟨w.heap.size,6,none⟩=some (.int .i64 hi1):=by rw [Lib.cell_of_heap X3.out];rfl
 have x7:w3.cell? ⟨w.heap.size,7,none⟩=some (.bool o1):=by rw [Lib.cell_of_heap X3.out];rfl
 have x8:w3.cell? ⟨w.heap.size,8,none⟩=some (.slice ps1 ns1 cs1):=by rw [Lib.cell_of_heap X3.out];rfl
 have x9:w3.cell? ⟨w.heap.size,9,none⟩=some (.slice pr1 nr1 cr1):=by rw [Lib.cell_of_heap X3.out];rfl
 have y0:w3.cell? ⟨w.heap.size+1,0,none⟩=some (.int .i64 k2):=by rw [Lib.cell_of_heap Y3.out];rfl
 have y1:w3.cell? ⟨w.heap.size+1,1,none⟩=some (.string nm2):=by rw [Lib.cell_of_heap Y3.out];rfl
 have y2:w3.cell? ⟨w.heap.size+1,2,none⟩=some (.int .i64 op2):=by rw [Lib.cell_of_heap Y3.out];rfl
 have y3:w3.cell? ⟨w.heap.size+1,3,none⟩=some (.slice pv2 nv2 cv2):=by rw [Lib.cell_of_heap Y3.out];rfl
 have y4:w3.cell? ⟨w.heap.size+1,4,none⟩=some (.slice pt2 nt2 ct2):=by rw [Lib.cell_of_heap Y3.out];rfl
 have y5:w3.cell? ⟨w.heap.size+1,5,none⟩=some (.int .i64 lo2):=by rw [Lib.cell_of_heap Y3.out];rfl
 have y6:w3.cell? ⟨w.heap.size+1,6,none⟩=some (.int .i64 hi2):=by rw [Lib.cell_of_heap Y3.out];rfl
 have y7:w3.cell? ⟨w.heap.size+1,7,none⟩=some (.bool o2):=by rw [Lib.cell_of_heap Y3.out];rfl
 have y8:w3.cell? ⟨w.heap.size+1,8,none⟩=some (.slice ps2 ns2 cs2):=by rw [Lib.cell_of_heap Y3.out];rfl
 have y9:w3.cell? ⟨w.heap.size+1,9,none⟩=some (.slice pr2 nr2 cr2):=by rw [Lib.cell_of_heap Y3.out];rfl
 have m0:=blkLt X3.out
 have m1:=blkLt Y3.out
 go_wp2_with fail
 refine (cV.out w3 kB).mono ?_
 rintro e w4 ⟨v4,rfl,hO4,kb⟩
 have k4:Below W0.heap.size W0 w4:=kB.trans (kb.mono kB.size)
 have X4:Hid (_):=blkC X3.out kb
 have Y4:Hid (_):=blkC Y3.out kb
 have Z4:Hid (_):=blkC Z3.out kb
 have hN4:NmsAt w4 v4 VF:=hO4.nms (by omega)
 clear hO4 X3 Y3 Z3 cV kb kB m0 m1 x0 x1 x2 x3 x4 x5 x6 x7 x8 x9 y0 y1 y2 y3 y4 y5 y6 y7 y8 y9
 have y0:w4.cell? ⟨w.heap.size+1,0,none⟩=some (.int .i64 k2):=by rw [Lib.cell_of_heap Y4.out];rfl
 have y1:w4.cell? ⟨w.heap.size+1,1,none⟩=some (.string nm2):=by rw [Lib.cell_of_heap Y4.out];rfl
 have y2:w4.cell? ⟨w.heap.size+1,2,none⟩=some (.int .i64 op2):=by rw [Lib.cell_of_heap Y4.out];rfl
 have y3:w4.cell? ⟨w.heap.size+1,3,none⟩=some (.slice pv2 nv2 cv2):=by rw [Lib.cell_of_heap Y4.out];rfl
 have y4:w4.cell? ⟨w.heap.size+1,4,none⟩=some (.slice pt2 nt2 ct2):=by rw [Lib.cell_of_heap Y4.out];rfl
 have y5:w4.cell? ⟨w.heap.size+1,5,none⟩=some (.int .i64 lo2):=by rw [Lib.cell_of_heap Y4.out];rfl
 have y6:w4.cell? ⟨w.heap.size+1,6,none⟩=some (.int .i64 hi2):=by rw [Lib.cell_of_heap Y4.out];rfl
 have y7:w4.cell? ⟨w.heap.size+1,7,none⟩=some (.bool o2):=by rw [Lib.cell_of_heap Y4.out];rfl
 have y8:w4.cell? ⟨w.heap.size+1,8,none⟩=some (.slice ps2 ns2 cs2):=by rw [Lib.cell_of_heap Y4.out];rfl
 have y9:w4.cell? ⟨w.heap.size+1,9,none⟩=some (.slice pr2 nr2 cr2):=by rw [Lib.cell_of_heap Y4.out];rfl
 go_wp2_with fail
 refine (cU.out w4 k4).mono ?_
 rintro e w5 ⟨v5,rfl,hO5,kb⟩
 have k5:Below W0.heap.size W0 w5:=k4.trans (kb.mono k4.size)
 have X5:Hid (_):=blkC X4.out kb
 have Y5:Hid (_):=blkC Y4.out kb
 have Z5:Hid (_):=blkC Z4.out kb
 have hN5:NmsAt w5 v5 VG:=hO5.nms (by omega)
 have hM5:NmsAt w5 v4 VF:=hN4.below kb
 clear hO5 X4 Y4 Z4 cU kb k4 hN4 y0 y1 y2 y3 y4 y5 y6 y7 y8 y9
 obtain ⟨pa,ca,rfl,la,lca,HA0⟩:=hM5.form
 obtain ⟨pb,cb,rfl,lb,lcb,HB0⟩:=hN5.form
 have HA:Hid (∀ i (hi:i<VF.length),∃ b off,pa=some ⟨b,off,none⟩∧b<w5.heap.size∧w5.cell? ⟨b,off+i,none⟩=some (.string VF[i])):=HA0
 have HB:Hid (∀ i (hi:i<VG.length),∃ b off,pb=some ⟨b,off,none⟩∧b<w5.heap.size∧w5.cell? ⟨b,off+i,none⟩=some (.string VG[i])):=HB0
 clear HA0 HB0 hM5 hN5
 obtain ⟨R,eR⟩:∃ R:Bool,Hid (decide (VF=VG)=R):=⟨_,rfl⟩
 rw [eR.out] at h1
 have H1:Hid (decide (SA=0)=(R && (decide (SF=0) && decide (SG=0)))):=h1
 obtain ⟨nf,enf⟩:∃ n:Nat,Hid (VF.length=n):=⟨_,rfl⟩
 obtain ⟨ng,eng⟩:∃ n:Nat,Hid (VG.length=n):=⟨_,rfl⟩
 obtain ⟨B0,eB0⟩:∃ B:Bool,((nf:Int)==(ng:Int))=B:=⟨_,rfl⟩
 have hB0:B0=decide (VF.length=VG.length):=by rw [← eB0,enf.out,eng.out];by_cases h:nf=ng<;>simp [h]<;>omega
 have HI:Hid (alk B0 (VF.drop 0) (VG.drop 0)=R):=by show _=_;rw [List.drop_zero,List.drop_zero,hB0,alk_eq,eR.out]
 have HE:Hid (B0=true→nf=ng):=fun h=>by rw [hB0,enf.out,eng.out] at h;simpa using h
 rw [enf.out] at la lca ⊢
 rw [eng.out] at lb lcb ⊢
 clear hB0 h1 lF lG eR
 go_wp2
 go_loopw [9,31] (fun v9 v31 wr=>∃ (k:Nat) (B:Bool),k≤nf∧v31=.int .i64 k∧v9=.bool B∧Hid (alk B (VF.drop k) (VG.drop k)=R)∧Hid (B=true→nf=ng)∧Below w5.heap.size w5 wr) (fun _ v31 _=>nf - (intOf v31).toNat)
 case atStart=>exact ⟨0,B0,Nat.zero_le _,rfl,rfl,HI,HE,Below.refl _ _⟩
 case round=>
  obtain ⟨k,B,hk,rfl,rfl,hR,hEq,hB⟩:=hrel
  by_cases hlt:k<nf
  ·have hlt':(k:Int)<nf:=by omega
   have kx:k<VF.length:=by have:=enf.out;omega
   cases B with
   | false=>
    have hR2:Hid (alk false (VF.drop (k+1)) (VG.drop (k+1))=R):=by show _=_;rw [alk_false];have h:=hR.out;rwa [alk_false] at h
    clear hR HI HE
    go_upto_region 11 with fail
    go_quiet (fail)
    all_goals
     go_wp2
     exact ⟨⟨k+1,false,by omega,by go_num,rfl,hR2,hEq,bdrewA _ hB⟩,by simp [intOf];omega⟩
   | true=>
    have ky:k<VG.length:=by have h:=hEq.out rfl;have:=eng.out;omega
    have hlg:(k:Int)<ng:=by have h:=hEq.out rfl;omega
    obtain ⟨ba,oa,rfl,hba,a0⟩:=HA.out k kx
    obtain ⟨bb,ob,rfl,hbb,b0⟩:=HB.out k ky
    have a1:=(hB.cell (p:=⟨ba,oa+k,none⟩) hba).trans a0
    have b1:=(hB.cell (p:=⟨bb,ob+k,none⟩) hbb).trans b0
    have hR2:Hid (alk (true && decide (VF[k]=VG[k])) (VF.drop (k+1)) (VG.drop (k+1))=R):=by
     have h:=hR.out
     rw [List.drop_eq_getElem_cons kx,List.drop_eq_getElem_cons ky,alk] at h
     exact h
    clear hR a0 b0 HI HE
    by_cases hxy:VF[k]=VG[k]
    ·have hR3:Hid (alk true (VF.drop (k+1)) (VG.drop (k+1))=R):=by have h:=hR2.out;rw [decide_eq_true hxy,Bool.true_and] at h;exact h
     rw [← hxy] at b1
     generalize VF[k]=X at a1 b1
     clear hR2 hxy
     go_upto_region 11 with fail
     go_quiet (fail)
     all_goals
      go_wp2
      exact ⟨⟨k+1,true,by omega,by go_num,rfl,hR3,hEq,bdrewA _ hB⟩,by simp [intOf];omega⟩
    ·have hR3:Hid (alk false (VF.drop (k+1)) (VG.drop (k+1))=R):=by have h:=hR2.out;rw [decide_eq_false hxy,Bool.and_false] at h;exact h
     have hx2:¬ VF[k].toList=VG[k].toList:=fun h=>hxy (by first | exact ByteArray.toList_inj.1 h | (apply ByteArray.ext;simpa [ByteArray.toList_eq] using h))
     generalize VF[k]=X at a1 hxy hx2
     generalize VG[k]=Y at b1 hxy hx2
     have hxb:(X.toList==Y.toList)=false:=by simp [hx2]
     clear hR2
     go_upto_region 11 with fail
     go_quiet (fail)
     all_goals
      go_wp2
      exact ⟨⟨k+1,false,by omega,by go_num,rfl,hR3,fun h=>by simp at h,bdrewA _ hB⟩,by simp [intOf];omega⟩
  ·have c2:¬ (k:Int)<nf:=by omega
   have hBR:B=R:=by
    have h:=hR.out
    rw [List.drop_eq_nil_of_le (by have:=enf.out;omega)] at h
    first
     | (rw [alk] at h;exact h)
     | (cases hg:VG.drop k with
       | nil=>rw [hg,alk] at h;exact h
       | cons y l=>rw [hg,alk] at h;exact h)
   subst hBR
   have X6:Hid (_):=blkC X5.out hB
   have Y6:Hid (_):=blkC Y5.out hB
   have Z6:Hid (_):=blkC Z5.out hB
   have kr:Below W0.heap.size W0 wr:=k5.trans (hB.mono k5.size)
   clear HA HB hR hEq HI HE X5 Y5 Z5
   have x0:wr.cell? ⟨w.heap.size,0,none⟩=some (.int .i64 k1):=by rw [Lib.cell_of_heap X6.out];rfl
   have x1:wr.cell? ⟨w.heap.size,1,none⟩=some (.string nm1):=by rw [Lib.cell_of_heap X6.out];rfl
   have x2:wr.cell? ⟨w.heap.size,2,none⟩=some (.int .i64 op1):=by rw [Lib.cell_of_heap X6.out];rfl
   have x3:wr.cell? ⟨w.heap.size,3,none⟩=some (.slice pv1 nv1 cv1):=by rw [Lib.cell_of_heap X6.out];rfl
   have x4:wr.cell? ⟨w.heap.size,4,none⟩=some (.slice pt1 nt1 ct1):=by rw [Lib.cell_of_heap X6.out];rfl
   have x5:wr.cell? ⟨w.heap.size,5,none⟩=some (.int .i64 lo1):=by rw [Lib.cell_of_heap X6.out];rfl
   have x6:wr.cell? ⟨w.heap.size,6,none⟩=some (.int .i64 hi1):=by rw [Lib.cell_of_heap X6.out];rfl
   have x7:wr.cell? ⟨w.heap.size,7,none⟩=some (.bool o1):=by rw [Lib.cell_of_heap X6.out];rfl
   have x8:wr.cell? ⟨w.heap.size,8,none⟩=some (.slice ps1 ns1 cs1):=by rw [Lib.cell_of_heap X6.out];rfl
   have x9:wr.cell? ⟨w.heap.size,9,none⟩=some (.slice pr1 nr1 cr1):=by rw [Lib.cell_of_heap X6.out];rfl
   have y0:wr.cell? ⟨w.heap.size+1,0,none⟩=some (.int .i64 k2):=by rw [Lib.cell_of_heap Y6.out];rfl
   have y1:wr.cell? ⟨w.heap.size+1,1,none⟩=some (.string nm2):=by rw [Lib.cell_of_heap Y6.out];rfl
   have y2:wr.cell? ⟨w.heap.size+1,2,none⟩=some (.int .i64 op2):=by rw [Lib.cell_of_heap Y6.out];rfl
   have y3:wr.cell? ⟨w.heap.size+1,3,none⟩=some (.slice pv2 nv2 cv2):=by rw [Lib.cell_of_heap Y6.out];rfl
   have y4:wr.cell? ⟨w.heap.size+1,4,none⟩=some (.slice pt2 nt2 ct2):=by rw [Lib.cell_of_heap Y6.out];rfl
   have y5:wr.cell? ⟨w.heap.size+1,5,none⟩=some (.int .i64 lo2):=by rw [Lib.cell_of_heap Y6.out];rfl
   have y6:wr.cell? ⟨w.heap.size+1,6,none⟩=some (.int .i64 hi2):=by rw [Lib.cell_of_heap Y6.out];rfl
   have y7:wr.cell? ⟨w.heap.size+1,7,none⟩=some (.bool o2):=by rw [Lib.cell_of_heap Y6.out];rfl
   have y8:wr.cell? ⟨w.heap.size+1,8,none⟩=some (.slice ps2 ns2 cs2):=by rw [Lib.cell_of_heap Y6.out];rfl
   have y9:wr.cell? ⟨w.heap.size+1,9,none⟩=some (.slice pr2 nr2 cr2):=by rw [Lib.cell_of_heap Y6.out];rfl
   have z0:wr.cell? ⟨w1.heap.size+1,0,none⟩=some (.int .i64 9):=by rw [Lib.cell_of_heap Z6.out];rfl
   have z1:wr.cell? ⟨w1.heap.size+1,1,none⟩=some (.string ⟨#[]⟩):=by rw [Lib.cell_of_heap Z6.out];rfl
   have z2:wr.cell? ⟨w1.heap.size+1,2,none⟩=some (.int .i64 0):=by rw [Lib.cell_of_heap Z6.out];rfl
   have z3:wr.cell? ⟨w1.heap.size+1,3,none⟩=some (.slice none 0 0):=by rw [Lib.cell_of_heap Z6.out];rfl
   have z4:wr.cell? ⟨w1.heap.size+1,4,none⟩=some (.slice none 0 0):=by rw [Lib.cell_of_heap Z6.out];rfl
   have z5:wr.cell? ⟨w1.heap.size+1,5,none⟩=some (.int .i64 0):=by rw [Lib.cell_of_heap Z6.out];rfl
   have z6:wr.cell? ⟨w1.heap.size+1,6,none⟩=some (.int .i64 0):=by rw [Lib.cell_of_heap Z6.out];rfl
   have z7:wr.cell? ⟨w1.heap.size+1,7,none⟩=some (.bool false):=by rw [Lib.cell_of_heap Z6.out];rfl
   have z8:wr.cell? ⟨w1.heap.size+1,8,none⟩=some (.slice (some ⟨w1.heap.size,0,none⟩) 2 2):=by rw [Lib.cell_of_heap Z6.out];rfl
   have z9:wr.cell? ⟨w1.heap.size+1,9,none⟩=some (.slice none 0 0):=by rw [Lib.cell_of_heap Z6.out];rfl
   have h1:=H1.out
   clear H1
   have K6:Below w.heap.size w wr:=K0.trans (kr.mono K0.size)
   by_cases hA0:SA=0
   case pos=>
    subst hA0
    have h2:B=true∧SF=0∧SG=0:=by simpa using h1
    obtain ⟨rfl,rfl,rfl⟩:=h2
    clear h1
    go_wp2_with fail
    refine (cA.out wr kr).mono ?_
    rintro e w7 ⟨rfl,kb⟩
    have k7:Below W0.heap.size W0 w7:=kr.trans (kb.mono kr.size)
    have K7:Below w.heap.size w w7:=K6.trans (kb.mono K6.size)
    have X7:Hid (_):=blkC X6.out kb
    have Y7:Hid (_):=blkC Y6.out kb
    clear x0 x1 x2 x3 x4 x5 x6 x7 x8 x9 y0 y1 y2 y3 y4 y5 y6 y7 y8 y9 z0 z1 z2 z3 z4 z5 z6 z7 z8 z9 Z6 X6 Y6 cA kb
    have x0:w7.cell? ⟨w.heap.size,0,none⟩=some (.int .i64 k1):=by rw [Lib.cell_of_heap X7.out];rfl
    have x1:w7.cell? ⟨w.heap.size,1,none⟩=some (.string nm1):=by rw [Lib.cell_of_heap X7.out];rfl
    have x2:w7.cell? ⟨w.heap.size,2,none⟩=some (.int .i64 op1):=by rw [Lib.cell_of_heap X7.out];rfl
    have x3:w7.cell? ⟨w.heap.size,3,none⟩=some (.slice pv1 nv1 cv1):=by rw [Lib.cell_of_heap X7.out];rfl
    have x4:w7.cell? ⟨w.heap.size,4,none⟩=some (.slice pt1 nt1 ct1):=by rw [Lib.cell_of_heap X7.out];rfl
    have x5:w7.cell? ⟨w.heap.size,5,none⟩=some (.int .i64 lo1):=by rw [Lib.cell_of_heap X7.out];rfl
    have x6:w7.cell? ⟨w.heap.size,6,none⟩=some (.int .i64 hi1):=by rw [Lib.cell_of_heap X7.out];rfl
    have x7:w7.cell? ⟨w.heap.size,7,none⟩=some (.bool o1):=by rw [Lib.cell_of_heap X7.out];rfl
    have x8:w7.cell? ⟨w.heap.size,8,none⟩=some (.slice ps1 ns1 cs1):=by rw [Lib.cell_of_heap X7.out];rfl
    have x9:w7.cell? ⟨w.heap.size,9,none⟩=some (.slice pr1 nr1 cr1):=by rw [Lib.cell_of_heap X7.out];rfl
    have y0:w7.cell? ⟨w.heap.size+1,0,none⟩=some (.int .i64 k2):=by rw [Lib.cell_of_heap Y7.out];rfl
    have y1:w7.cell? ⟨w.heap.size+1,1,none⟩=some (.string nm2):=by rw [Lib.cell_of_heap Y7.out];rfl
    have y2:w7.cell? ⟨w.heap.size+1,2,none⟩=some (.int .i64 op2):=by rw [Lib.cell_of_heap Y7.out];rfl
    have y3:w7.cell? ⟨w.heap.size+1,3,none⟩=some (.slice pv2 nv2 cv2):=by rw [Lib.cell_of_heap Y7.out];rfl
    have y4:w7.cell? ⟨w.heap.size+1,4,none⟩=some (.slice pt2 nt2 ct2):=by rw [Lib.cell_of_heap Y7.out];rfl
    have y5:w7.cell? ⟨w.heap.size+1,5,none⟩=some (.int .i64 lo2):=by rw [Lib.cell_of_heap Y7.out];rfl
    have y6:w7.cell? ⟨w.heap.size+1,6,none⟩=some (.int .i64 hi2):=by rw [Lib.cell_of_heap Y7.out];rfl
    have y7:w7.cell? ⟨w.heap.size+1,7,none⟩=some (.bool o2):=by rw [Lib.cell_of_heap Y7.out];rfl
    have y8:w7.cell? ⟨w.heap.size+1,8,none⟩=some (.slice ps2 ns2 cs2):=by rw [Lib.cell_of_heap Y7.out];rfl
    have y9:w7.cell? ⟨w.heap.size+1,9,none⟩=some (.slice pr2 nr2 cr2):=by rw [Lib.cell_of_heap Y7.out];rfl
    go_wp2_with fail
    refine (cF.out w7 k7).mono ?_
    rintro e w8 ⟨rfl,kb⟩
    have k8:Below W0.heap.size W0 w8:=k7.trans (kb.mono k7.size)
    have K8:Below w.heap.size w w8:=K7.trans (kb.mono K7.size)
    have Y8:Hid (_):=blkC Y7.out kb
    clear x0 x1 x2 x3 x4 x5 x6 x7 x8 x9 y0 y1 y2 y3 y4 y5 y6 y7 y8 y9 X7 Y7 cF kb
    have y0:w8.cell? ⟨w.heap.size+1,0,none⟩=some (.int .i64 k2):=by rw [Lib.cell_of_heap Y8.out];rfl
    have y1:w8.cell? ⟨w.heap.size+1,1,none⟩=some (.string nm2):=by rw [Lib.cell_of_heap Y8.out];rfl
    have y2:w8.cell? ⟨w.heap.size+1,2,none⟩=some (.int .i64 op2):=by rw [Lib.cell_of_heap Y8.out];rfl
    have y3:w8.cell? ⟨w.heap.size+1,3,none⟩=some (.slice pv2 nv2 cv2):=by rw [Lib.cell_of_heap Y8.out];rfl
    have y4:w8.cell? ⟨w.heap.size+1,4,none⟩=some (.slice pt2 nt2 ct2):=by rw [Lib.cell_of_heap Y8.out];rfl
    have y5:w8.cell? ⟨w.heap.size+1,5,none⟩=some (.int .i64 lo2):=by rw [Lib.cell_of_heap Y8.out];rfl
    have y6:w8.cell? ⟨w.heap.size+1,6,none⟩=some (.int .i64 hi2):=by rw [Lib.cell_of_heap Y8.out];rfl
    have y7:w8.cell? ⟨w.heap.size+1,7,none⟩=some (.bool o2):=by rw [Lib.cell_of_heap Y8.out];rfl
    have y8:w8.cell? ⟨w.heap.size+1,8,none⟩=some (.slice ps2 ns2 cs2):=by rw [Lib.cell_of_heap Y8.out];rfl
    have y9:w8.cell? ⟨w.heap.size+1,9,none⟩=some (.slice pr2 nr2 cr2):=by rw [Lib.cell_of_heap Y8.out];rfl
    go_wp2_with fail
    refine (cG.out w8 k8).mono ?_
    rintro e w9 ⟨rfl,kb⟩
    have K9:Below w.heap.size w w9:=K8.trans (kb.mono K8.size)
    clear y0 y1 y2 y3 y4 y5 y6 y7 y8 y9 Y8 cG kb
    go_wp2
    go_ret
    exact ⟨rfl,K9⟩
   case neg=>
    have hAb:(SA==0)=false:=by simp [hA0]
    go_wp2_with fail
    refine (cA.out wr kr).mono ?_
    rintro e w7 ⟨rfl,kb⟩
    have k7:Below W0.heap.size W0 w7:=kr.trans (kb.mono kr.size)
    have K7:Below w.heap.size w w7:=K6.trans (kb.mono K6.size)
    have X7:Hid (_):=blkC X6.out kb
    have Y7:Hid (_):=blkC Y6.out kb
    clear x0 x1 x2 x3 x4 x5 x6 x7 x8 x9 y0 y1 y2 y3 y4 y5 y6 y7 y8 y9 z0 z1 z2 z3 z4 z5 z6 z7 z8 z9 Z6 X6 Y6 cA kb
    have x0:w7.cell? ⟨w.heap.size,0,none⟩=some (.int .i64 k1):=by rw [Lib.cell_of_heap X7.out];rfl
    have x1:w7.cell? ⟨w.heap.size,1,none⟩=some (.string nm1):=by rw [Lib.cell_of_heap X7.out];rfl
    have x2:w7.cell? ⟨w.heap.size,2,none⟩=some (.int .i64 op1):=by rw [Lib.cell_of_heap X7.out];rfl
    have x3:w7.cell? ⟨w.heap.size,3,none⟩=some (.slice pv1 nv1 cv1):=by rw [Lib.cell_of_heap X7.out];rfl
    have x4:w7.cell? ⟨w.heap.size,4,none⟩=some (.slice pt1 nt1 ct1):=by rw [Lib.cell_of_heap X7.out];rfl
    have x5:w7.cell? ⟨w.heap.size,5,none⟩=some (.int .i64 lo1):=by rw [Lib.cell_of_heap X7.out];rfl
    have x6:w7.cell? ⟨w.heap.size,6,none⟩=some (.int .i64 hi1):=by rw [Lib.cell_of_heap X7.out];rfl
    have x7:w7.cell? ⟨w.heap.size,7,none⟩=some (.bool o1):=by rw [Lib.cell_of_heap X7.out];rfl
    have x8:w7.cell? ⟨w.heap.size,8,none⟩=some (.slice ps1 ns1 cs1):=by rw [Lib.cell_of_heap X7.out];rfl
    have x9:w7.cell? ⟨w.heap.size,9,none⟩=some (.slice pr1 nr1 cr1):=by rw [Lib.cell_of_heap X7.out];rfl
    have y0:w7.cell? ⟨w.heap.size+1,0,none⟩=some (.int .i64 k2):=by rw [Lib.cell_of_heap Y7.out];rfl
    have y1:w7.cell? ⟨w.heap.size+1,1,none⟩=some (.string nm2):=by rw [Lib.cell_of_heap Y7.out];rfl
    have y2:w7.cell? ⟨w.heap.size+1,2,none⟩=some (.int .i64 op2):=by rw [Lib.cell_of_heap Y7.out];rfl
    have y3:w7.cell? ⟨w.heap.size+1,3,none⟩=some (.slice pv2 nv2 cv2):=by rw [Lib.cell_of_heap Y7.out];rfl
    have y4:w7.cell? ⟨w.heap.size+1,4,none⟩=some (.slice pt2 nt2 ct2):=by rw [Lib.cell_of_heap Y7.out];rfl
    have y5:w7.cell? ⟨w.heap.size+1,5,none⟩=some (.int .i64 lo2):=by rw [Lib.cell_of_heap Y7.out];rfl
    have y6:w7.cell? ⟨w.heap.size+1,6,none⟩=some (.int .i64 hi2):=by rw [Lib.cell_of_heap Y7.out];rfl
    have y7:w7.cell? ⟨w.heap.size+1,7,none⟩=some (.bool o2):=by rw [Lib.cell_of_heap Y7.out];rfl
    have y8:w7.cell? ⟨w.heap.size+1,8,none⟩=some (.slice ps2 ns2 cs2):=by rw [Lib.cell_of_heap Y7.out];rfl
    have y9:w7.cell? ⟨w.heap.size+1,9,none⟩=some (.slice pr2 nr2 cr2):=by rw [Lib.cell_of_heap Y7.out];rfl
    cases B with
    | false=>
     clear h1 X7 Y7 x0 x1 x2 x3 x4 x5 x6 x7 x8 x9 y0 y1 y2 y3 y4 y5 y6 y7 y8 y9 cF cG
     go_wp2
     go_ret
     exact ⟨rfl,K7⟩
    | true=>
     go_wp2_with fail
     refine (cF.out w7 k7).mono ?_
     rintro e w8 ⟨rfl,kb⟩
     have k8:Below W0.heap.size W0 w8:=k7.trans (kb.mono k7.size)
     have K8:Below w.heap.size w w8:=K7.trans (kb.mono K7.size)
     have Y8:Hid (_):=blkC Y7.out kb
     clear x0 x1 x2 x3 x4 x5 x6 x7 x8 x9 y0 y1 y2 y3 y4 y5 y6 y7 y8 y9 X7 Y7 cF kb
     by_cases hF0:SF=0
     ·subst hF0
      have hG0:(SG==0)=false:=by simpa [hA0] using h1
      clear h1
      have y0:w8.cell? ⟨w.heap.size+1,0,none⟩=some (.int .i64 k2):=by rw [Lib.cell_of_heap Y8.out];rfl
      have y1:w8.cell? ⟨w.heap.size+1,1,none⟩=some (.string nm2):=by rw [Lib.cell_of_heap Y8.out];rfl
      have y2:w8.cell? ⟨w.heap.size+1,2,none⟩=some (.int .i64 op2):=by rw [Lib.cell_of_heap Y8.out];rfl
      have y3:w8.cell? ⟨w.heap.size+1,3,none⟩=some (.slice pv2 nv2 cv2):=by rw [Lib.cell_of_heap Y8.out];rfl
      have y4:w8.cell? ⟨w.heap.size+1,4,none⟩=some (.slice pt2 nt2 ct2):=by rw [Lib.cell_of_heap Y8.out];rfl
      have y5:w8.cell? ⟨w.heap.size+1,5,none⟩=some (.int .i64 lo2):=by rw [Lib.cell_of_heap Y8.out];rfl
      have y6:w8.cell? ⟨w.heap.size+1,6,none⟩=some (.int .i64 hi2):=by rw [Lib.cell_of_heap Y8.out];rfl
      have y7:w8.cell? ⟨w.heap.size+1,7,none⟩=some (.bool o2):=by rw [Lib.cell_of_heap Y8.out];rfl
      have y8:w8.cell? ⟨w.heap.size+1,8,none⟩=some (.slice ps2 ns2 cs2):=by rw [Lib.cell_of_heap Y8.out];rfl
      have y9:w8.cell? ⟨w.heap.size+1,9,none⟩=some (.slice pr2 nr2 cr2):=by rw [Lib.cell_of_heap Y8.out];rfl
      go_wp2_with fail
      refine (cG.out w8 k8).mono ?_
      rintro e w9 ⟨rfl,kb⟩
      have K9:Below w.heap.size w w9:=K8.trans (kb.mono K8.size)
      clear y0 y1 y2 y3 y4 y5 y6 y7 y8 y9 Y8 cG kb
      go_wp2
      go_ret
      exact ⟨rfl,K9⟩
     ·have hFb:(SF==0)=false:=by simp [hF0]
      clear h1 Y8 cG
      go_wp2
      go_ret
      exact ⟨rfl,K8⟩
end Go.Proofs.YthodedagbbifbaaGreat
