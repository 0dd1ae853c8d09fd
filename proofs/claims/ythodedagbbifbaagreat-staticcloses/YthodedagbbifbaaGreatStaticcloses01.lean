/- What staticCloses_holds needs besides. -/
import Derived.Test.YthodedagbbifbaaGreatZ09
set_option maxRecDepth 100000
set_option maxHeartbeats 16000000
namespace Go.Proofs.YthodedagbbifbaaGreat
open Go.RowKit LX Go.Shelf
set_option linter.unusedVariables false
theorem far_one {p:Pt} (h:0≤p.about.reach):farP [p]=p.about.reach:=by
 show max 0 p.about.reach=_
 omega
theorem rch_all {f:Fm} (h:chkF f=0):0≤(prtF f []).about.reach∧(prtF f []).about.reach≤281474976710656:=by
 obtain ⟨hw,hn, -, -⟩:=(chk_iff f).1 h
 have:=(rch_bd (nodF f)).1 f [] 0 (Nat.le_refl _) hw (Int.le_refl _) (fun x hx=>by cases hx)
 omega
def oneF (k:Int) (vs:List ByteArray) (lo hi:Int) (o:Bool) (f:Fm):Fm:=.mk k ⟨#[]⟩ 0 vs [] lo hi o [f] []
theorem pts_oneF (k:Int) (vs:List ByteArray) (lo hi:Int) (o:Bool) (f:Fm):ptsF (oneF k vs lo hi o f)=[f]:=rfl
theorem prt_oneF {k:Int} {vs:List ByteArray} {lo hi:Int} {o:Bool} {f:Fm} (h20:k≠20) (h21:k≠21):prtF (oneF k vs lo hi o f) []=mkP [] (oneF k vs lo hi o f) [prtF f []]:=by
 rw [prtF_eq,if_neg (show (oneF k vs lo hi o f).k≠20 from h20),if_neg (show (oneF k vs lo hi o f).k≠21 from h21)]
 show mkP [] (oneF k vs lo hi o f) (prtRs [] []++prtFs [f] [])=_
 rw [prtRs,prtFs,prtFs]
 rfl
theorem acc_of {f:Fm} (h:stE f=0):chkF f=0∧(prtF f []).about.acc=true:=by
 unfold stE at h
 by_cases hc:chkF f=0
 ·rw [if_pos hc] at h
  cases ha:(prtF f []).about.acc with
  | true=>exact ⟨hc,rfl⟩
  | false=>rw [ha] at h;simp at h
 ·rw [if_neg hc] at h;exact absurd h hc
theorem stR_of {f:Fm} (h:stE f=0):stR f=(prtF f []).about.reach:=by unfold stR;rw [if_pos h]
theorem accP_one (p:Pt):accP [p]=p.about.acc:=by unfold accP;simp
theorem vr_fre {f:Fm} (h:chkF f=0):(prtF f []).about.vars=(fre f).1:=by
 rw [prtF_eq,mkP_about]
 show varF f=_
 unfold varF
 rw [if_pos h]
theorem amg_self (l:List ByteArray):amg l l=true:=by
 unfold amg
 rw [List.all_eq_true]
 intro s hs
 exact (Lib.containsS_iff _ _).2 hs
theorem fre_exO {f:Fm}:(fre (oneF 10 (fre f).1 0 0 false f)).1=[]:=by
 rw [fre_eq,pts_oneF]
 show freO (oneF 10 (fre f).1 0 0 false f) [(fre f).1]=[]
 unfold freO
 rw [if_pos (show (oneF 10 (fre f).1 0 0 false f).k=10 from rfl)]
 show ((fre f).1).filter (fun s=> !Lib.containsS (fre f).1 s)=[]
 rw [List.filter_eq_nil_iff]
 intro s hs
 have h:=amg_self (fre f).1
 unfold amg at h
 rw [List.all_eq_true] at h
 rw [h s hs]
 simp
theorem close_law {f:Fm} (hf:stE f=0) (hc:chkF (oneF 10 (fre f).1 0 0 false f)=0):
  stE (oneF 10 (fre f).1 0 0 false f)=0∧stR (oneF 10 (fre f).1 0 0 false f)=stR f∧(chkF (oneF 7 [] 0 0 false (oneF 10 (fre f).1 0 0 false f))=0→stE (oneF 7 [] 0 0 false (oneF 10 (fre f).1 0 0 false f))=0):=by
 obtain ⟨hcf,hac⟩:=acc_of hf
 have hr:=(rch_all hcf).1
 have hp:=prt_oneF (k:=10) (vs:=(fre f).1) (lo:=0) (hi:=0) (o:=false) (f:=f) (by decide) (by decide)
 have hab:=mkP_about [] (oneF 10 (fre f).1 0 0 false f) [prtF f []]
 rw [← hp] at hab
 have e1:isAccP (oneF 10 (fre f).1 0 0 false f) [prtF f []]=true:=by
  show (accP [prtF f []] && amg (fre f).1 (prtF f []).about.vars)=true
  rw [accP_one,hac,vr_fre hcf,amg_self]
  rfl
 have e2:rchIn [] (oneF 10 (fre f).1 0 0 false f) [prtF f []]=(prtF f []).about.reach:=far_one hr
 have e3:stE (oneF 10 (fre f).1 0 0 false f)=0:=by
  unfold stE
  rw [if_pos hc,hab]
  show (if isAccP (oneF 10 (fre f).1 0 0 false f) [prtF f []]=true then (0:Int) else 100)=_
  rw [e1]
  rfl
 refine ⟨e3, ?_,fun hn=> ?_⟩
 ·rw [stR_of e3,hab,stR_of hf]
  exact e2
 ·have hp2:=prt_oneF (k:=7) (vs:=[]) (lo:=0) (hi:=0) (o:=false) (f:=oneF 10 (fre f).1 0 0 false f) (by decide) (by decide)
  have hab2:=mkP_about [] (oneF 7 [] 0 0 false (oneF 10 (fre f).1 0 0 false f)) [prtF (oneF 10 (fre f).1 0 0 false f) []]
  rw [← hp2] at hab2
  unfold stE
  rw [if_pos hn,hab2]
  have e4:isAccP (oneF 7 [] 0 0 false (oneF 10 (fre f).1 0 0 false f)) [prtF (oneF 10 (fre f).1 0 0 false f) []]=true:=by
   show (accP [prtF (oneF 10 (fre f).1 0 0 false f) []] && (prtF (oneF 10 (fre f).1 0 0 false f) []).about.vars.isEmpty)=true
   rw [accP_one,(acc_of e3).2,vr_fre hc,fre_exO]
   rfl
  show (if isAccP (oneF 7 [] 0 0 false (oneF 10 (fre f).1 0 0 false f)) [prtF (oneF 10 (fre f).1 0 0 false f) []]=true then (0:Int) else 100)=_
  rw [e4]
  rfl
theorem scloses_any (f:Fm) (q:FQ) (w:World) (hq:QAt w (f,q)):
  Calls Tryz.prog 7 #[.agg #[.int .i64 f.k,.string f.nm,.int .i64 f.op,q.v,q.t,.int .i64 f.lo,.int .i64 f.hi,.bool f.opn,q.s,q.r]] w fun e w'=>e=.returned (.bool true)∧Below w.heap.size w w':=by
 have HF:Hid (∀ W:World,Below w.heap.size w W→QAt W (f,q)):=fun W hW=>hq.below hW
 have cR:Hid (∀ W:World,Below w.heap.size w W→Calls Tryz.prog 10 #[.agg #[.int .i64 f.k,.string f.nm,.int .i64 f.op,q.v,q.t,.int .i64 f.lo,.int .i64 f.hi,.bool f.opn,q.s,q.r]] W fun e w'=>e=.returned (.tuple #[.int .i64 (stR f),.int .i64 (stE f)])∧Below W.heap.size W w'):=fun W hW=>reach_st f q W (hq.below hW)
 have cV:Hid (∀ W:World,Below w.heap.size w W→Calls Tryz.prog 19 #[.agg #[.int .i64 f.k,.string f.nm,.int .i64 f.op,q.v,q.t,.int .i64 f.lo,.int .i64 f.hi,.bool f.opn,q.s,q.r]] W fun e w'=>∃ v,e=.returned v∧OwnN W.heap.size v (varF f) w'∧Below W.heap.size W w'):=fun W hW=>rfree_fm f q W (hq.below hW)
 obtain ⟨uv,ut,us,ur⟩:=q
 have hq2:=sfm_forms hq
 dsimp only at hq2
 obtain ⟨⟨pv1,cv1,rfl⟩,⟨pt1,ct1,rfl⟩,⟨ps1,cs1,rfl⟩,⟨pr1,cr1,rfl⟩⟩:=hq2
 clear hq
 dsimp only at cR cV ⊢
 obtain ⟨VF,eVF⟩:∃ VF,Hid (varF f=VF):=⟨_,rfl⟩
 obtain ⟨SE,eSE⟩:∃ SE,Hid (stE f=SE):=⟨_,rfl⟩
 obtain ⟨SR,eSR⟩:∃ SR,Hid (stR f=SR):=⟨_,rfl⟩
 rw [eVF.out] at cV
 rw [eSE.out,eSR.out] at cR
 have lVF:VF.length≤1000000∨VF.length≤1000000:=by
  left
  rw [← eVF.out]
  unfold varF
  by_cases hc:chkF f=0
  ·rw [if_pos hc]
   obtain ⟨h1,h2, -, -⟩:=(chk_iff f).1 hc
   have:=varF_len h1
   unfold varF at this
   rw [if_pos hc] at this
   omega
  ·rw [if_neg hc];simp
 have lVF2:VF.length≤1000000:=by omega
 clear lVF
 go_enter Tryz.func7,Tryz.ntmps7
 go_wp2_with fail
 refine (live10_any _).mono ?_
 rintro e w1 ⟨rfl,hb1⟩
 have K1:Below w.heap.size w w1:=Below.trans (by go_grown) (hb1.mono (by simp;try omega))
 have X1:Hid (w1.heap[w.heap.size]? =_):=(hb1.block w.heap.size (by simp)).trans (heap_allocA w _)
 clear hb1
 have x0:w1.cell? ⟨w.heap.size,0,none⟩=some (.int .i64 f.k):=by rw [Lib.cell_of_heap X1.out];rfl
 have x1:w1.cell? ⟨w.heap.size,1,none⟩=some (.string f.nm):=by rw [Lib.cell_of_heap X1.out];rfl
 have x2:w1.cell? ⟨w.heap.size,2,none⟩=some (.int .i64 f.op):=by rw [Lib.cell_of_heap X1.out];rfl
 have x3:w1.cell? ⟨w.heap.size,3,none⟩=some (.slice pv1 f.vars.length cv1):=by rw [Lib.cell_of_heap X1.out];rfl
 have x4:w1.cell? ⟨w.heap.size,4,none⟩=some (.slice pt1 f.terms.length ct1):=by rw [Lib.cell_of_heap X1.out];rfl
 have x5:w1.cell? ⟨w.heap.size,5,none⟩=some (.int .i64 f.lo):=by rw [Lib.cell_of_heap X1.out];rfl
 have x6:w1.cell? ⟨w.heap.size,6,none⟩=some (.int .i64 f.hi):=by rw [Lib.cell_of_heap X1.out];rfl
 have x7:w1.cell? ⟨w.heap.size,7,none⟩=some (.bool f.opn):=by rw [Lib.cell_of_heap X1.out];rfl
 have x8:w1.cell? ⟨w.heap.size,8,none⟩=some (.slice ps1 f.subs.length cs1):=by rw [Lib.cell_of_heap X1.out];rfl
 have x9:w1.cell? ⟨w.heap.size,9,none⟩=some (.slice pr1 f.rgx.length cr1):=by rw [Lib.cell_of_heap X1.out];rfl
 go_wp2_with fail
 refine (cR.out w1 K1).mono ?_
 rintro e w2 ⟨rfl,kb⟩
 have K2:Below w.heap.size w w2:=K1.trans (kb.mono K1.size)
 have X2:Hid (_):=blkC X1.out kb
 clear kb cR K1 X1 x0 x1 x2 x3 x4 x5 x6 x7 x8 x9
 have x0:w2.cell? ⟨w.heap.size,0,none⟩=some (.int .i64 f.k):=by rw [Lib.cell_of_heap X2.out];rfl
 have x1:w2.cell? ⟨w.heap.size,1,none⟩=some (.string f.nm):=by rw [Lib.cell_of_heap X2.out];rfl
 have x2:w2.cell? ⟨w.heap.size,2,none⟩=some (.int .i64 f.op):=by rw [Lib.cell_of_heap X2.out];rfl
 have x3:w2.cell? ⟨w.heap.size,3,none⟩=some (.slice pv1 f.vars.length cv1):=by rw [Lib.cell_of_heap X2.out];rfl
 have x4:w2.cell? ⟨w.heap.size,4,none⟩=some (.slice pt1 f.terms.length ct1):=by rw [Lib.cell_of_heap X2.out];rfl
 have x5:w2.cell? ⟨w.heap.size,5,none⟩=some (.int .i64 f.lo):=by rw [Lib.cell_of_heap X2.out];rfl
 have x6:w2.cell? ⟨w.heap.size,6,none⟩=some (.int .i64 f.hi):=by rw [Lib.cell_of_heap X2.out];rfl
 have x7:w2.cell? ⟨w.heap.size,7,none⟩=some (.bool f.opn):=by rw [Lib.cell_of_heap X2.out];rfl
 have x8:w2.cell? ⟨w.heap.size,8,none⟩=some (.slice ps1 f.subs.length cs1):=by rw [Lib.cell_of_heap X2.out];rfl
 have x9:w2.cell? ⟨w.heap.size,9,none⟩=some (.slice pr1 f.rgx.length cr1):=by rw [Lib.cell_of_heap X2.out];rfl
 go_wp2_with fail
 refine (cV.out w2 K2).mono ?_
 rintro e w3 ⟨v3,rfl,hO,kb⟩
 have K3:Below w.heap.size w w3:=K2.trans (kb.mono K2.size)
 have X3:Hid (_):=blkC X2.out kb
 have hNv:NmsAt w3 v3 VF:=hO.nms (by omega)
 obtain ⟨qv,dv,rfl, -⟩:=hNv.form
 have HNV:Hid (∀ W:World,Below w3.heap.size w3 W→NmsAt W (.slice qv VF.length dv) VF):=fun W hW=>hNv.below hW
 clear kb cV K2 X2 hO hNv x0 x1 x2 x3 x4 x5 x6 x7 x8 x9
 by_cases hE:SE=0
 case neg=>
  have hne:(SE != 0)=true:=by simp [hE]
  clear HF HNV X3
  go_wp2
  go_ret
  exact ⟨rfl,K3⟩
 case pos=>
 subst hE
 by_cases hV:VF.length=0
 case pos=>
  have hne:((VF.length:Int)==0)=true:=by simp [hV]
  clear HF HNV X3 hV
  go_wp2
  go_ret
  exact ⟨rfl,K3⟩
 case neg=>
 have hne:((VF.length:Int)==0)=false:=beq_eq_false_iff_ne.2 (by omega)
 clear hV
 have x0:w3.cell? ⟨w.heap.size,0,none⟩=some (.int .i64 f.k):=by rw [Lib.cell_of_heap X3.out];rfl
 have x1:w3.cell? ⟨w.heap.size,1,none⟩=some (.string f.nm):=by rw [Lib.cell_of_heap X3.out];rfl
 have x2:w3.cell? ⟨w.heap.size,2,none⟩=some (.int .i64 f.op):=by rw [Lib.cell_of_heap X3.out];rfl
 have x3:w3.cell? ⟨w.heap.size,3,none⟩=some (.slice pv1 f.vars.length cv1):=by rw [Lib.cell_of_heap X3.out];rfl
 have x4:w3.cell? ⟨w.heap.size,4,none⟩=some (.slice pt1 f.terms.length ct1):=by rw [Lib.cell_of_heap X3.out];rfl
 have x5:w3.cell? ⟨w.heap.size,5,none⟩=some (.int .i64 f.lo):=by rw [Lib.cell_of_heap X3.out];rfl
 have x6:w3.cell? ⟨w.heap.size,6,none⟩=some (.int .i64 f.hi):=by rw [Lib.cell_of_heap X3.out];rfl
 have x7:w3.cell? ⟨w.heap.size,7,none⟩=some (.bool f.opn):=by rw [Lib.cell_of_heap X3.out];rfl
 have x8:w3.cell? ⟨w.heap.size,8,none⟩=some (.slice ps1 f.subs.length cs1):=by rw [Lib.cell_of_heap X3.out];rfl
 have x9:w3.cell? ⟨w.heap.size,9,none⟩=some (.slice pr1 f.rgx.length cr1):=by rw [Lib.cell_of_heap X3.out];rfl
 go_upto_region 7 with fail
 refine wpS_world ?_
 intro W0 hW0
 have kA:Below w3.heap.size w3 W0:=by rw [hW0];go_grown
 have Z0:Hid (W0.heap[w3.heap.size+1]? =some (.cells #[.int .i64 10,.string ⟨#[]⟩,.int .i64 0,.slice qv VF.length dv,.slice none 0 0,.int .i64 0,.int .i64 0,.bool false,.slice (some ⟨w3.heap.size,0,none⟩) 1 1,.slice none 0 0] 29 (0,0))):=by rw [hW0];exact blk2b w3 _ _
 have S0:Hid (W0.heap[w3.heap.size]? =some (.cells #[.int .i64 f.k,.string f.nm,.int .i64 f.op,.slice pv1 f.vars.length cv1,.slice pt1 f.terms.length ct1,.int .i64 f.lo,.int .i64 f.hi,.bool f.opn,.slice ps1 f.subs.length cs1,.slice pr1 f.rgx.length cr1] 29 (0,0))):=by rw [hW0];exact blk2a w3 _ _
 clear hW0 x0 x1 x2 x3 x4 x5 x6 x7 x8 x9
 have K0:Below w.heap.size w W0:=K3.trans (kA.mono K3.size)
 have hA:QAt W0 (oneF 10 VF 0 0 false f,⟨.slice qv VF.length dv,.slice none 0 0,.slice (some ⟨w3.heap.size,0,none⟩) 1 1,.slice none 0 0⟩):=⟨HNV.out W0 kA,.nil,fms_one (f:=f) (blkLt S0.out) (HF.out W0 K0) (by refine ⟨?_, ?_, ?_, ?_, ?_, ?_, ?_, ?_, ?_, ?_⟩<;>(rw [Lib.cell_of_heap S0.out];rfl)),.nil⟩
 have hcf:chkF f=0:=(acc_of eSE.out).1
 have eFR:VF=(fre f).1:=by rw [← eVF.out];unfold varF;rw [if_pos hcf]
 have hlaw:Hid (chkF (oneF 10 VF 0 0 false f)=0→stE (oneF 10 VF 0 0 false f)=0∧stR (oneF 10 VF 0 0 false f)=SR∧varF (oneF 10 VF 0 0 false f)=[]∧(chkF (oneF 7 [] 0 0 false (oneF 10 VF 0 0 false f))=0→stE (oneF 7 [] 0 0 false (oneF 10 VF 0 0 false f))=0)):=fun h=>by
  subst eFR
  obtain ⟨a,b,c⟩:=close_law eSE.out h
  refine ⟨a,b.trans eSR.out, ?_,c⟩
  unfold varF
  rw [if_pos h]
  exact fre_exO
 clear hcf eFR
 have cK:Hid (∀ W:World,Below W0.heap.size W0 W→Calls Tryz.prog 18 #[.agg #[.int .i64 10,.string ⟨#[]⟩,.int .i64 0,.slice qv VF.length dv,.slice none 0 0,.int .i64 0,.int .i64 0,.bool false,.slice (some ⟨w3.heap.size,0,none⟩) 1 1,.slice none 0 0]] W fun e w'=>e=.returned (.int .i64 (chkF (oneF 10 VF 0 0 false f)))∧Below W.heap.size W w'):=fun W hW=>rcheck_fm (oneF 10 VF 0 0 false f) ⟨.slice qv VF.length dv,.slice none 0 0,.slice (some ⟨w3.heap.size,0,none⟩) 1 1,.slice none 0 0⟩ W (hA.below hW)
 have cR:Hid (∀ W:World,Below W0.heap.size W0 W→Calls Tryz.prog 10 #[.agg #[.int .i64 10,.string ⟨#[]⟩,.int .i64 0,.slice qv VF.length dv,.slice none 0 0,.int .i64 0,.int .i64 0,.bool false,.slice (some ⟨w3.heap.size,0,none⟩) 1 1,.slice none 0 0]] W fun e w'=>e=.returned (.tuple #[.int .i64 (stR (oneF 10 VF 0 0 false f)),.int .i64 (stE (oneF 10 VF 0 0 false f))])∧Below W.heap.size W w'):=fun W hW=>reach_st (oneF 10 VF 0 0 false f) ⟨.slice qv VF.length dv,.slice none 0 0,.slice (some ⟨w3.heap.size,0,none⟩) 1 1,.slice none 0 0⟩ W (hA.below hW)
 have cV:Hid (∀ W:World,Below W0.heap.size W0 W→Calls Tryz.prog 19 #[.agg #[.int .i64 10,.string ⟨#[]⟩,.int .i64 0,.slice qv VF.length dv,.slice none 0 0,.int .i64 0,.int .i64 0,.bool false,.slice (some ⟨w3.heap.size,0,none⟩) 1 1,.slice none 0 0]] W fun e w'=>∃ v,e=.returned v∧OwnN W.heap.size v (varF (oneF 10 VF 0 0 false f)) w'∧Below W.heap.size W w'):=fun W hW=>rfree_fm (oneF 10 VF 0 0 false f) ⟨.slice qv VF.length dv,.slice none 0 0,.slice (some ⟨w3.heap.size,0,none⟩) 1 1,.slice none 0 0⟩ W (hA.below hW)
 have HA:Hid (∀ W:World,Below W0.heap.size W0 W→QAt W (oneF 10 VF 0 0 false f,⟨.slice qv VF.length dv,.slice none 0 0,.slice (some ⟨w3.heap.size,0,none⟩) 1 1,.slice none 0 0⟩)):=fun W hW=>hA.below hW
 clear hA HF HNV S0 kA X3 K3
 obtain ⟨C,eC⟩:∃ C,Hid (chkF (oneF 10 VF 0 0 false f)=C):=⟨_,rfl⟩
 rw [eC.out] at cK hlaw
 have hz:=Z0.out
 have z0:W0.cell? ⟨w3.heap.size+1,0,none⟩=some (.int .i64 10):=by rw [Lib.cell_of_heap hz];rfl
 have z1:W0.cell? ⟨w3.heap.size+1,1,none⟩=some (.string ⟨#[]⟩):=by rw [Lib.cell_of_heap hz];rfl
 have z2:W0.cell? ⟨w3.heap.size+1,2,none⟩=some (.int .i64 0):=by rw [Lib.cell_of_heap hz];rfl
 have z3:W0.cell? ⟨w3.heap.size+1,3,none⟩=some (.slice qv VF.length dv):=by rw [Lib.cell_of_heap hz];rfl
 have z4:W0.cell? ⟨w3.heap.size+1,4,none⟩=some (.slice none 0 0):=by rw [Lib.cell_of_heap hz];rfl
 have z5:W0.cell? ⟨w3.heap.size+1,5,none⟩=some (.int .i64 0):=by rw [Lib.cell_of_heap hz];rfl
 have z6:W0.cell? ⟨w3.heap.size+1,6,none⟩=some (.int .i64 0):=by rw [Lib.cell_of_heap hz];rfl
 have z7:W0.cell? ⟨w3.heap.size+1,7,none⟩=some (.bool false):=by rw [Lib.cell_of_heap hz];rfl
 have z8:W0.cell? ⟨w3.heap.size+1,8,none⟩=some (.slice (some ⟨w3.heap.size,0,none⟩) 1 1):=by rw [Lib.cell_of_heap hz];rfl
 have z9:W0.cell? ⟨w3.heap.size+1,9,none⟩=some (.slice none 0 0):=by rw [Lib.cell_of_heap hz];rfl
 go_wp2_with fail
 refine (cK.out W0 (Below.refl _ _)).mono ?_
 rintro e w4 ⟨rfl,kB⟩
 have Z4:Hid (_):=blkC hz kB
 clear Z0 hz cK z0 z1 z2 z3 z4 z5 z6 z7 z8 z9
 by_cases hc:C=0
 case neg=>
  have hne2:(C != 0)=true:=by simp [hc]
  have K4:Below w.heap.size w w4:=K0.trans (kB.mono K0.size)
  clear hlaw cR cV HA Z4
  go_wp2
  go_ret
  exact ⟨rfl,K4⟩
 case pos=>
 subst hc
 obtain ⟨h1,h2,h3,h4⟩:=hlaw.out rfl
 rw [h1,h2] at cR
 rw [h3] at cV
 have H4:Hid (chkF (oneF 7 [] 0 0 false (oneF 10 VF 0 0 false f))=0→stE (oneF 7 [] 0 0 false (oneF 10 VF 0 0 false f))=0):=h4
 clear hlaw h1 h2 h3 h4
 have z0:w4.cell? ⟨w3.heap.size+1,0,none⟩=some (.int .i64 10):=by rw [Lib.cell_of_heap Z4.out];rfl
 have z1:w4.cell? ⟨w3.heap.size+1,1,none⟩=some (.string ⟨#[]⟩):=by rw [Lib.cell_of_heap Z4.out];rfl
 have z2:w4.cell? ⟨w3.heap.size+1,2,none⟩=some (.int .i64 0):=by rw [Lib.cell_of_heap Z4.out];rfl
 have z3:w4.cell? ⟨w3.heap.size+1,3,none⟩=some (.slice qv VF.length dv):=by rw [Lib.cell_of_heap Z4.out];rfl
 have z4:w4.cell? ⟨w3.heap.size+1,4,none⟩=some (.slice none 0 0):=by rw [Lib.cell_of_heap Z4.out];rfl
 have z5:w4.cell? ⟨w3.heap.size+1,5,none⟩=some (.int .i64 0):=by rw [Lib.cell_of_heap Z4.out];rfl
 have z6:w4.cell? ⟨w3.heap.size+1,6,none⟩=some (.int .i64 0):=by rw [Lib.cell_of_heap Z4.out];rfl
 have z7:w4.cell? ⟨w3.heap.size+1,7,none⟩=some (.bool false):=by rw [Lib.cell_of_heap Z4.out];rfl
 have z8:w4.cell? ⟨w3.heap.size+1,8,none⟩=some (.slice (some ⟨w3.heap.size,0,none⟩) 1 1):=by rw [Lib.cell_of_heap Z4.out];rfl
 have z9:w4.cell? ⟨w3.heap.size+1,9,none⟩=some (.slice none 0 0):=by rw [Lib.cell_of_heap Z4.out];rfl
 go_wp2_with fail
 refine (cR.out w4 kB).mono ?_
 rintro e w5 ⟨rfl,kb⟩
 have Z5:Hid (_):=blkC Z4.out kb
 have kB5:Below W0.heap.size W0 w5:=kB.trans (kb.mono kB.size)
 clear kb kB Z4 cR z0 z1 z2 z3 z4 z5 z6 z7 z8 z9
 have z0:w5.cell? ⟨w3.heap.size+1,0,none⟩=some (.int .i64 10):=by rw [Lib.cell_of_heap Z5.out];rfl
 have z1:w5.cell? ⟨w3.heap.size+1,1,none⟩=some (.string ⟨#[]⟩):=by rw [Lib.cell_of_heap Z5.out];rfl
 have z2:w5.cell? ⟨w3.heap.size+1,2,none⟩=some (.int .i64 0):=by rw [Lib.cell_of_heap Z5.out];rfl
 have z3:w5.cell? ⟨w3.heap.size+1,3,none⟩=some (.slice qv VF.length dv):=by rw [Lib.cell_of_heap Z5.out];rfl
 have z4:w5.cell? ⟨w3.heap.size+1,4,none⟩=some (.slice none 0 0):=by rw [Lib.cell_of_heap Z5.out];rfl
 have z5:w5.cell? ⟨w3.heap.size+1,5,none⟩=some (.int .i64 0):=by rw [Lib.cell_of_heap Z5.out];rfl
 have z6:w5.cell? ⟨w3.heap.size+1,6,none⟩=some (.int .i64 0):=by rw [Lib.cell_of_heap Z5.out];rfl
 have z7:w5.cell? ⟨w3.heap.size+1,7,none⟩=some (.bool false):=by rw [Lib.cell_of_heap Z5.out];rfl
 have z8:w5.cell? ⟨w3.heap.size+1,8,none⟩=some (.slice (some ⟨w3.heap.size,0,none⟩) 1 1):=by rw [Lib.cell_of_heap Z5.out];rfl
 have z9:w5.cell? ⟨w3.heap.size+1,9,none⟩=some (.slice none 0 0):=by rw [Lib.cell_of_heap Z5.out];rfl
 go_upto_region 11 with fail
 refine wpS_world ?_
 intro W6 hW6
 have kA:Below w5.heap.size w5 W6:=by rw [hW6];go_grown
 have N6:Hid (W6.heap[w5.heap.size+1]? =some (.cells #[.int .i64 7,.string ⟨#[]⟩,.int .i64 0,.slice none 0 0,.slice none 0 0,.int .i64 0,.int .i64 0,.bool false,.slice (some ⟨w5.heap.size,0,none⟩) 1 1,.slice none 0 0] 29 (0,0))):=by rw [hW6];exact blk2b w5 _ _
 have S6:Hid (W6.heap[w5.heap.size]? =some (.cells #[.int .i64 10,.string ⟨#[]⟩,.int .i64 0,.slice qv VF.length dv,.slice none 0 0,.int .i64 0,.int .i64 0,.bool false,.slice (some ⟨w3.heap.size,0,none⟩) 1 1,.slice none 0 0] 29 (0,0))):=by rw [hW6];exact blk2a w5 _ _
 clear hW6 z0 z1 z2 z3 z4 z5 z6 z7 z8 z9
 have kB6:Below W0.heap.size W0 W6:=kB5.trans (kA.mono kB5.size)
 have Z6:Hid (_):=blkC Z5.out kA
 have hN:QAt W6 (oneF 7 [] 0 0 false (oneF 10 VF 0 0 false f),⟨.slice none 0 0,.slice none 0 0,.slice (some ⟨w5.heap.size,0,none⟩) 1 1,.slice none 0 0⟩):=⟨nms_nil _,.nil,fms_one (f:=oneF 10 VF 0 0 false f) (q:=⟨.slice qv VF.length dv,.slice none 0 0,.slice (some ⟨w3.heap.size,0,none⟩) 1 1,.slice none 0 0⟩) (blkLt S6.out) (HA.out W6 kB6) (by refine ⟨?_, ?_, ?_, ?_, ?_, ?_, ?_, ?_, ?_, ?_⟩<;>(rw [Lib.cell_of_heap S6.out];rfl)),.nil⟩
 have cK:Hid (∀ W:World,Below W6.heap.size W6 W→Calls Tryz.prog 18 #[.agg #[.int .i64 7,.string ⟨#[]⟩,.int .i64 0,.slice none 0 0,.slice none 0 0,.int .i64 0,.int .i64 0,.bool false,.slice (some ⟨w5.heap.size,0,none⟩) 1 1,.slice none 0 0]] W fun e w'=>e=.returned (.int .i64 (chkF (oneF 7 [] 0 0 false (oneF 10 VF 0 0 false f))))∧Below W.heap.size W w'):=fun W hW=>rcheck_fm (oneF 7 [] 0 0 false (oneF 10 VF 0 0 false f)) ⟨.slice none 0 0,.slice none 0 0,.slice (some ⟨w5.heap.size,0,none⟩) 1 1,.slice none 0 0⟩ W (hN.below hW)
 have cS:Hid (∀ W:World,Below W6.heap.size W6 W→Calls Tryz.prog 12 #[.agg #[.int .i64 7,.string ⟨#[]⟩,.int .i64 0,.slice none 0 0,.slice none 0 0,.int .i64 0,.int .i64 0,.bool false,.slice (some ⟨w5.heap.size,0,none⟩) 1 1,.slice none 0 0]] W fun e w'=>e=.returned (.int .i64 (stE (oneF 7 [] 0 0 false (oneF 10 VF 0 0 false f))))∧Below W.heap.size W w'):=fun W hW=>check_st (oneF 7 [] 0 0 false (oneF 10 VF 0 0 false f)) ⟨.slice none 0 0,.slice none 0 0,.slice (some ⟨w5.heap.size,0,none⟩) 1 1,.slice none 0 0⟩ W (hN.below hW)
 clear hN HA S6 Z5 kA kB5
 obtain ⟨D,eD⟩:∃ D,Hid (chkF (oneF 7 [] 0 0 false (oneF 10 VF 0 0 false f))=D):=⟨_,rfl⟩
 obtain ⟨SN,eN⟩:∃ SN,Hid (stE (oneF 7 [] 0 0 false (oneF 10 VF 0 0 false f))=SN):=⟨_,rfl⟩
 rw [eD.out] at cK H4
 rw [eN.out] at cS H4
 have z0:W6.cell? ⟨w3.heap.size+1,0,none⟩=some (.int .i64 10):=by rw [Lib.cell_of_heap Z6.out];rfl
 have z1:W6.cell? ⟨w3.heap.size+1,1,none⟩=some (.string ⟨#[]⟩):=by rw [Lib.cell_of_heap Z6.out];rfl
 have z2:W6.cell? ⟨w3.heap.size+1,2,none⟩=some (.int .i64 0):=by rw [Lib.cell_of_heap Z6.out];rfl
 have z3:W6.cell? ⟨w3.heap.size+1,3,none⟩=some (.slice qv VF.length dv):=by rw [Lib.cell_of_heap Z6.out];rfl
 have z4:W6.cell? ⟨w3.heap.size+1,4,none⟩=some (.slice none 0 0):=by rw [Lib.cell_of_heap Z6.out];rfl
 have z5:W6.cell? ⟨w3.heap.size+1,5,none⟩=some (.int .i64 0):=by rw [Lib.cell_of_heap Z6.out];rfl
 have z6:W6.cell? ⟨w3.heap.size+1,6,none⟩=some (.int .i64 0):=by rw [Lib.cell_of_heap Z6.out];rfl
 have z7:W6.cell? ⟨w3.heap.size+1,7,none⟩=some (.bool false):=by rw [Lib.cell_of_heap Z6.out];rfl
 have z8:W6.cell? ⟨w3.heap.size+1,8,none⟩=some (.slice (some ⟨w3.heap.size,0,none⟩) 1 1):=by rw [Lib.cell_of_heap Z6.out];rfl
 have z9:W6.cell? ⟨w3.heap.size+1,9,none⟩=some (.slice none 0 0):=by rw [Lib.cell_of_heap Z6.out];rfl
 have n0:W6.cell? ⟨w5.heap.size+1,0,none⟩=some (.int .i64 7):=by rw [Lib.cell_of_heap N6.out];rfl
 have n1:W6.cell? ⟨w5.heap.size+1,1,none⟩=some (.string ⟨#[]⟩):=by rw [Lib.cell_of_heap N6.out];rfl
 have n2:W6.cell? ⟨w5.heap.size+1,2,none⟩=some (.int .i64 0):=by rw [Lib.cell_of_heap N6.out];rfl
 have n3:W6.cell? ⟨w5.heap.size+1,3,none⟩=some (.slice none 0 0):=by rw [Lib.cell_of_heap N6.out];rfl
 have n4:W6.cell? ⟨w5.heap.size+1,4,none⟩=some (.slice none 0 0):=by rw [Lib.cell_of_heap N6.out];rfl
 have n5:W6.cell? ⟨w5.heap.size+1,5,none⟩=some (.int .i64 0):=by rw [Lib.cell_of_heap N6.out];rfl
 have n6:W6.cell? ⟨w5.heap.size+1,6,none⟩=some (.int .i64 0):=by rw [Lib.cell_of_heap N6.out];rfl
 have n7:W6.cell? ⟨w5.heap.size+1,7,none⟩=some (.bool false):=by rw [Lib.cell_of_heap N6.out];rfl
 have n8:W6.cell? ⟨w5.heap.size+1,8,none⟩=some (.slice (some ⟨w5.heap.size,0,none⟩) 1 1):=by rw [Lib.cell_of_heap N6.out];rfl
 have n9:W6.cell? ⟨w5.heap.size+1,9,none⟩=some (.slice none 0 0):=by rw [Lib.cell_of_heap N6.out];rfl
 go_wp2_with fail
 refine (cV.out W6 kB6).mono ?_
 rintro e w7 ⟨v7,rfl,hO,kb7⟩
 obtain ⟨qw,dw,rfl, -⟩:=(hO.nms (by simp)).form
 have N7:Hid (_):=blkC N6.out kb7
 clear hO cV Z6 N6 z0 z1 z2 z3 z4 z5 z6 z7 z8 z9 n0 n1 n2 n3 n4 n5 n6 n7 n8 n9
 have n0:w7.cell? ⟨w5.heap.size+1,0,none⟩=some (.int .i64 7):=by rw [Lib.cell_of_heap N7.out];rfl
 have n1:w7.cell? ⟨w5.heap.size+1,1,none⟩=some (.string ⟨#[]⟩):=by rw [Lib.cell_of_heap N7.out];rfl
 have n2:w7.cell? ⟨w5.heap.size+1,2,none⟩=some (.int .i64 0):=by rw [Lib.cell_of_heap N7.out];rfl
 have n3:w7.cell? ⟨w5.heap.size+1,3,none⟩=some (.slice none 0 0):=by rw [Lib.cell_of_heap N7.out];rfl
 have n4:w7.cell? ⟨w5.heap.size+1,4,none⟩=some (.slice none 0 0):=by rw [Lib.cell_of_heap N7.out];rfl
 have n5:w7.cell? ⟨w5.heap.size+1,5,none⟩=some (.int .i64 0):=by rw [Lib.cell_of_heap N7.out];rfl
 have n6:w7.cell? ⟨w5.heap.size+1,6,none⟩=some (.int .i64 0):=by rw [Lib.cell_of_heap N7.out];rfl
 have n7:w7.cell? ⟨w5.heap.size+1,7,none⟩=some (.bool false):=by rw [Lib.cell_of_heap N7.out];rfl
 have n8:w7.cell? ⟨w5.heap.size+1,8,none⟩=some (.slice (some ⟨w5.heap.size,0,none⟩) 1 1):=by rw [Lib.cell_of_heap N7.out];rfl
 have n9:w7.cell? ⟨w5.heap.size+1,9,none⟩=some (.slice none 0 0):=by rw [Lib.cell_of_heap N7.out];rfl
 go_wp2_with fail
 refine (cK.out w7 kb7).mono ?_
 rintro e w8 ⟨rfl,kb⟩
 have kb8:Below W6.heap.size W6 w8:=kb7.trans (kb.mono kb7.size)
 have N8:Hid (_):=blkC N7.out kb
 have K8:Below w.heap.size w w8:=(K0.trans (kB6.mono K0.size)).trans (kb8.mono (by have:=K0.size;have:=kB6.size;omega))
 clear kb cK N7 n0 n1 n2 n3 n4 n5 n6 n7 n8 n9
 by_cases hd:D=0
 case neg=>
  have hne3:(D != 0)=true:=by simp [hd]
  clear cS H4 N8
  go_wp2
  go_ret
  exact ⟨rfl,K8⟩
 case pos=>
 subst hd
 have hs:SN=0:=H4.out rfl
 subst hs
 clear H4
 have n0:w8.cell? ⟨w5.heap.size+1,0,none⟩=some (.int .i64 7):=by rw [Lib.cell_of_heap N8.out];rfl
 have n1:w8.cell? ⟨w5.heap.size+1,1,none⟩=some (.string ⟨#[]⟩):=by rw [Lib.cell_of_heap N8.out];rfl
 have n2:w8.cell? ⟨w5.heap.size+1,2,none⟩=some (.int .i64 0):=by rw [Lib.cell_of_heap N8.out];rfl
 have n3:w8.cell? ⟨w5.heap.size+1,3,none⟩=some (.slice none 0 0):=by rw [Lib.cell_of_heap N8.out];rfl
 have n4:w8.cell? ⟨w5.heap.size+1,4,none⟩=some (.slice none 0 0):=by rw [Lib.cell_of_heap N8.out];rfl
 have n5:w8.cell? ⟨w5.heap.size+1,5,none⟩=some (.int .i64 0):=by rw [Lib.cell_of_heap N8.out];rfl
 have n6:w8.cell? ⟨w5.heap.size+1,6,none⟩=some (.int .i64 0):=by rw [Lib.cell_of_heap N8.out];rfl
 have n7:w8.cell? ⟨w5.heap.size+1,7,none⟩=some (.bool false):=by rw [Lib.cell_of_heap N8.out];rfl
 have n8:w8.cell? ⟨w5.heap.size+1,8,none⟩=some (.slice (some ⟨w5.heap.size,0,none⟩) 1 1):=by rw [Lib.cell_of_heap N8.out];rfl
 have n9:w8.cell? ⟨w5.heap.size+1,9,none⟩=some (.slice none 0 0):=by rw [Lib.cell_of_heap N8.out];rfl
 go_wp2_with fail
 refine (cS.out w8 kb8).mono ?_
 rintro e w9 ⟨rfl,kb⟩
 have K9:Below w.heap.size w w9:=K8.trans (kb.mono K8.size)
 clear cS N8 kb n0 n1 n2 n3 n4 n5 n6 n7 n8 n9
 go_wp2
 go_ret
 exact ⟨rfl,K9⟩
end Go.Proofs.YthodedagbbifbaaGreat
