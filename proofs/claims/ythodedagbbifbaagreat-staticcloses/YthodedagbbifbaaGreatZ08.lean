/- What the claims of this seat share: base. -/
import Derived.Test.YthodedagbbifbaaGreatZ07
import Derived.Deep.DeepCutAuto
import Derived.Deep.CutBlock
set_option maxRecDepth 100000
set_option maxHeartbeats 24000000
namespace Go.Proofs.YthodedagbbifbaaGreat
open Go.RowKit LX Go.Shelf
set_option linter.unusedVariables false
theorem doc_fmE (f:Fm) (hs:f.subs.length≤9223372036854775807):
  wrE (repN [] f.vars || (decide (f.k=19) && Lib.containsS (f.vars.drop 1) f.nm)) 30 (wrE (!(formB (usO f.k) f.nm f.op f.lo f.hi f.opn f.vars.length f.terms.length f.subs.length f.rgx.length && namedB (usO f.k) f.nm f.vars f.lo f.hi f.opn)) 1 (wrE (manyB f.k f.vars.length f.terms.length) 3 (wrE (decide (f.k<1∨22<f.k)) 20 0)))=fmE f:=by
 unfold fmE
 by_cases hk:f.k<1∨22<f.k
 ·simp [hk,wrE]
 ·rw [if_neg hk]
  cases hm:manyB f.k f.vars.length f.terms.length with
  | true=>simp [hk,wrE]
  | false=>
   rw [form_eq f.k f.op f.lo f.hi f.nm f.opn f.vars f.terms.length f.subs.length f.rgx.length (by omega) hm hs]
   generalize (formB (usO f.k) f.nm f.op f.lo f.hi f.opn f.vars.length f.terms.length f.subs.length f.rgx.length && namedB (usO f.k) f.nm f.vars f.lo f.hi f.opn)=b
   generalize repN [] f.vars=r
   generalize Lib.containsS (f.vars.drop 1) f.nm=c
   by_cases h19:f.k=19<;>cases b<;>cases r<;>cases c<;>simp [hk,wrE,h19]
theorem doc_tmE (t:Tm):
  (if t.k=2 then wrE (decide (¬ t.v.may=0)) t.v.may else id) (wrE (decide (t.k=1) && !nameB t.nm || decide (¬ t.k=1) && !(t.nm.toList==[]) || decide (¬ t.k=2) && !sameB t.v.k t.v.n t.v.d t.v.s 0 0 0 ⟨#[]⟩ || decide (¬ t.subs.length=if t.k=3∨t.k=4∨t.k=5 then 2 else 0)) 1 (wrE (decide (t.k<1∨5<t.k)) 20 0))=tmE t:=by
 unfold tmE
 by_cases hk:t.k<1∨5<t.k
 ·have h2:¬ t.k=2:=by omega
  simp [hk,wrE,h2]
 ·rw [if_neg hk]
  generalize nameB t.nm=a
  generalize (t.nm.toList==[])=b
  generalize sameB t.v.k t.v.n t.v.d t.v.s 0 0 0 ⟨#[]⟩=c
  generalize t.v.may=m
  generalize t.subs.length=n
  have h5:t.k=1∨t.k=2∨t.k=3∨t.k=4∨t.k=5:=by omega
  rcases h5 with h | h | h | h | h<;>cases a<;>cases b<;>cases c<;>simp [wrE,h]<;>grind
theorem Fr.keep {q:Nat} {w w':World} (h:Fr (fun k=>k=q) w w'):KeepT q w w':=⟨h.os,h.tape,h.output,h.size,h.block⟩
theorem WK.lt {w:World} {q:Nat} {N M E:Int} (h:WK w q N M E):q<w.heap.size:=(Array.getElem?_eq_some_iff.1 h).1
theorem WK.below {w w':World} {q:Nat} {N M E:Int} (h:WK w q N M E) (hb:Below w.heap.size w w'):WK w' q N M E:=(hb.block q h.lt).trans h
theorem WK.alloc {w:World} {q:Nat} {N M E:Int} (h:WK w q N M E) (o:Obj):WK (w.alloc o) q N M E:=(Below.heap_alloc w o q h.lt).trans h
theorem WK.e {w:World} {q:Nat} {N M E:Int} (h:WK w q N M E):w.cell? ⟨q,2,none⟩=some (.int .i64 E):=(Lib.cell_of_heap (show w.heap[q]? =_ from h) _).trans rfl
theorem rterm_no (q:Nat) (N M E d tk vk vn vd:Int) (nm vs:ByteArray) (u:Value) (w:World) (h:WK w q N M E) (hE:¬ E=0):
  Calls Tryz.prog 66 #[.pointer (some ⟨q,0,none⟩),.agg #[.int .i64 tk,.string nm,.int .i64 vk,.int .i64 vn,.int .i64 vd,.string vs,u],.int .i64 d] w fun r w'=>(∃ v,r=.returned v)∧Hid (Below w.heap.size w w'∧WK w' q N M E):=by
 have H:Hid (WK w q N M E):=h
 clear h
 go_enter Tryz.func66,Tryz.ntmps66
 go_wp2_with fail
 refine (rnode_no q N M E d _ (H.out.alloc _) hE).mono ?_
 rintro r w1 ⟨rfl,rfl⟩
 go_wp2
 refine bodyPost_ret (results_none rfl _ _ _) rfl ?_
 exact ⟨⟨_,rfl⟩,by go_grown,H.out.alloc _⟩
def WQ (w:World) (q:Nat) (R:Int×(Int×Int)):Prop:=∃ N M,WK w q N M R.1∧(R.1=0→N=R.2.1∧M=R.2.2)
theorem nd_meet {d:Int} {s:Int×Int} (hs:OkS s):ndE d s.1=meetE d s:=by
 unfold ndE meetE wrE
 obtain ⟨h0,h1, -⟩:=hs
 by_cases a:24<d<;>by_cases b:s.1=256<;>simp [a,b]<;>omega
def WS (w:World) (q:Nat) (R:Int×(Int×Int)) (F:Int×Int→Int×(Int×Int)):Prop:=∃ N M E,WK w q N M E∧(E=0→OkS (N,M)∧R=F (N,M))∧(¬ E=0→R.1=E)
theorem WS.of {w:World} {q:Nat} {N M:Int} {R:Int×(Int×Int)} {F:Int×Int→Int×(Int×Int)} (h:WK w q N M 0) (ho:OkS (N,M)) (hR:R=F (N,M)):WS w q R F:=⟨N,M,0,h,fun _=>⟨ho,hR⟩,fun e=>absurd rfl e⟩
theorem WS.cast {w:World} {q:Nat} {R:Int×(Int×Int)} {F G:Int×Int→Int×(Int×Int)} (h:WS w q R F) (e:∀ s,F s=G s):WS w q R G:=by have:F=G:=funext e;rw [← this];exact h
theorem WS.wq {w:World} {q:Nat} {R:Int×(Int×Int)} (h:WS w q R (fun s=>(0,s))):WQ w q R:=by
 obtain ⟨N,M,E,h,h1,h2⟩:=h
 by_cases hE:E=0
 ·obtain ⟨-,e⟩:=h1 hE
  rw [e]
  subst hE
  exact ⟨N,M,h,fun _=>⟨rfl,rfl⟩⟩
 ·have e:=h2 hE
  exact ⟨N,M,by rw [e];exact h,fun e'=>absurd (e.symm.trans e') hE⟩
theorem WS.step {w w':World} {q:Nat} {N M:Int} {R:Int×(Int×Int)} {G F:Int×Int→Int×(Int×Int)} (hR:R=andT (G (N,M)) F) (hQ:WQ w' q (G (N,M))) (ho:OkS (G (N,M)).2):WS w' q R F:=by
 obtain ⟨N',M',h,h1⟩:=hQ
 refine ⟨N',M',(G (N,M)).1,h,fun e=> ?_,fun e=> ?_⟩
 ·obtain ⟨rfl,rfl⟩:=h1 e
  refine ⟨ho, ?_⟩
  rw [hR]
  exact if_pos e
 ·rw [hR]
  unfold andT
  rw [if_neg e]
def Walks (w0:World) (q:Nat) (fn:FuncId) (V:Value) (d:Int) (G:Int×Int→Int×(Int×Int)):Prop:=∀ (W:World) (R:Int×(Int×Int)) (F:Int×Int→Int×(Int×Int)),Below w0.heap.size w0 W→WS W q R (fun s=>andT (G s) F)→
    Calls Tryz.prog fn #[.pointer (some ⟨q,0,none⟩),V,.int .i64 d] W fun r w'=>(∃ v,r=.returned v)∧Hid (KeepT q W w'∧WS w' q R F)
theorem rterm_clo (w0:World) (q:Nat) (hq:w0.heap.size≤q) (m:Nat) (ih:∀ (t:Tm) (V:Value) (d:Int) (s:Int×Int) (w:World),SizeOf.sizeOf t≤m→TmsAt w0 V t.subs→t.v.Fits→Below w0.heap.size w0 w→WK w q s.1 s.2 0→OkS s→0≤d→d≤25→
  Calls Tryz.prog 66 #[.pointer (some ⟨q,0,none⟩),.agg #[.int .i64 t.k,.string t.nm,.int .i64 t.v.k,.int .i64 t.v.n,.int .i64 t.v.d,.string t.v.s,V],.int .i64 d] w fun r w'=>(∃ v,r=.returned v)∧Hid (KeepT q w w'∧WQ w' q (trun d s t))) (t:Tm) (V:Value) (d:Int) (s:Int×Int) (w:World) (hm:SizeOf.sizeOf t≤m+1) (hV:TmsAt w0 V t.subs) (hF:t.v.Fits) (hw:Below w0.heap.size w0 w) (hK:WK w q s.1 s.2 0) (hs:OkS s) (hd0:0≤d) (hd1:d≤25) (h7:t.k<1):
  Calls Tryz.prog 66 #[.pointer (some ⟨q,0,none⟩),.agg #[.int .i64 t.k,.string t.nm,.int .i64 t.v.k,.int .i64 t.v.n,.int .i64 t.v.d,.string t.v.s,V],.int .i64 d] w fun r w'=>(∃ v,r=.returned v)∧Hid (KeepT q w w'∧WQ w' q (trun d s t)):=by
 obtain ⟨p,c,rfl,hl,hc,HX0⟩:=hV.form
 have HX:Hid (∀ i (hi:i<t.subs.length),∃ b off u,p=some ⟨b,off,none⟩∧b<w0.heap.size∧TmC w0 b (off+i*7) t.subs[i] u∧TmsAt w0 u t.subs[i].subs∧t.subs[i].v.Fits):=HX0
 have IH:Hid (_):=ih
 have HS:Hid (OkS s):=hs
 have HW:Hid (WK w q s.1 s.2 0):=hK
 have hqw:q<w.heap.size:=hK.lt
 have HM:Hid (SizeOf.sizeOf t≤m+1):=hm
 have hD:=doc_tmE t
 have cN:Hid (∀ W:World,Calls Tryz.prog 94 #[.string t.nm] W fun e w'=>e=.returned (.bool (nameB t.nm))∧Below W.heap.size W w'):=fun W=>rname_any t.nm W
 have cC:Hid (∀ W:World,Calls Tryz.prog 98 #[.agg #[.int .i64 t.v.k,.int .i64 t.v.n,.int .i64 t.v.d,.string t.v.s]] W fun e w'=>e=.returned (.int .i64 t.v.may)∧Below W.heap.size W w'):=fun W=>rcheck_any t.v.k t.v.n t.v.d t.v.s W hF.n1 hF.n2 hF.d1 hF.d2
 have cS:Hid (∀ W:World,Calls Tryz.prog 97 #[.agg #[.int .i64 t.v.k,.int .i64 t.v.n,.int .i64 t.v.d,.string t.v.s],.agg #[.int .i64 0,.int .i64 0,.int .i64 0,.string ⟨#[]⟩]] W fun e w'=>e=.returned (.bool (sameB t.v.k t.v.n t.v.d t.v.s 0 0 0 ⟨#[]⟩))∧Below W.heap.size W w'):=fun W=>rsame_any t.v.k t.v.n t.v.d t.v.s 0 0 0 ⟨#[]⟩ W
 have hte:=trun_eq d s t
 have HE:Hid (ndE d s.1=meetE d s):=nd_meet hs
 obtain ⟨R,eR⟩:∃ R:Int×(Int×Int),Hid (trun d s t=R):=⟨_,rfl⟩
 rw [eR.out] at hte ⊢
 have HTE:Hid (_):=hte
 obtain ⟨ts,ets⟩:∃ ts:List Tm,Hid (t.subs=ts):=⟨_,rfl⟩
 obtain ⟨nu,en⟩:∃ n:Nat,Hid (t.subs.length=n):=⟨_,rfl⟩
 rw [en.out] at hl hc hD ⊢
 have HD:Hid (_):=hD
 clear hV HX0 ih hK hs hm hte hD hF
 generalize nameB t.nm=NB at*
 generalize sameB t.v.k t.v.n t.v.d t.v.s 0 0 0 ⟨#[]⟩=SB at*
 generalize t.v.may=MY at*
 generalize t.v.k=vk at*
 generalize t.v.n=vn at*
 generalize t.v.d=vd at*
 generalize t.v.s=vs at*
 generalize t.k=tk at*
 generalize t.nm=nm at*
 go_enter Tryz.func66,Tryz.ntmps66
 go_wp2_with fail
 refine (rnode_any q s.1 s.2 d _ (HW.out.alloc _) ⟨HS.out.1,by have:=HS.out.2.1;omega⟩).mono ?_
 rintro r w1 ⟨rfl,h1⟩
 have hK1:KeepT q w w1:=(KeepT.of ((Below.refl _ _).alloc (Nat.le_refl _) _)).trans h1.out.2.keep
 have W1:Hid (WK w1 q (s.1+1) (if s.2<d then d else s.2) (ndE d s.1)):=h1.out.1
 have hne:w.heap.size≠q:=by omega
 have hz1:w.heap.size<w1.heap.size:=by have:=h1.out.2.size;simp at this;omega
 have B1:Hid (w1.heap[w.heap.size]? =_):=(h1.out.2.block w.heap.size (by simp) hne).trans (heap_allocA w _)
 have e0:w1.cell? ⟨w.heap.size,0,none⟩=some (.int .i64 tk):=by rw [Lib.cell_of_heap B1.out];rfl
 clear h1
 by_cases hE:ndE d s.1=0
 case neg=>
  have hE':(ndE d s.1==0)=false:=by simpa using hE
  rw [hE']
  go_wp2
  refine bodyPost_ret (results_none rfl _ _ _) rfl ?_
  refine ⟨⟨_,rfl⟩,hK1, ?_⟩
  have h:=HTE.out
  rw [← HE.out,if_neg hE] at h
  rw [h]
  exact ⟨_,_,W1.out,fun e=>absurd e hE⟩
 have hE':(ndE d s.1==0)=true:=by simpa using hE
 rw [hE']
 have W1':Hid (WK w1 q (s.1+1) (if s.2<d then d else s.2) 0):=by have h:=W1.out;rwa [hE] at h
 clear W1
 obtain ⟨N1,hN1⟩:∃ N1,Hid (s.1+1=N1):=⟨_,rfl⟩
 obtain ⟨M1,hM1⟩:∃ M1,Hid ((if s.2<d then d else s.2)=M1):=⟨_,rfl⟩
 rw [hN1.out,hM1.out] at W1'
 have hmS:Hid (meetS d s=(N1,M1)):=by
  have e:meetE d s=0:=by rw [← HE.out];exact hE
  unfold meetS
  rw [if_pos e,← hN1.out,← hM1.out,Int.max_def]
  congr 1
  by_cases h:s.2<d
  ·rw [if_pos h,if_pos (by omega)]
  ·rw [if_neg h];split<;>omega
 have HR:Hid (R=if tmE t=0 then truns (d+1) (N1,M1) t.subs else (tmE t,(N1,M1))):=by
  have h:=HTE.out
  rw [← HE.out,if_pos hE,hmS.out] at h
  exact h
 have hd24:d≤24:=meetE_le (s:=s) (by rw [← HE.out];exact hE)
 have HOk:Hid (OkS (N1,M1)):=by rw [← hmS.out];exact meetS_ok HS.out hd0
 clear HTE HE hE hE' hN1 hM1 hmS
 obtain ⟨TE,hTE⟩:∃ TE,Hid (tmE t=TE):=⟨_,rfl⟩
 rw [hTE.out] at HR HD
 clear hTE e0
 have HNo:Hid (¬ TE=0→∀ W:World,WK W q N1 M1 TE→WQ W q R):=by
  intro h W hW
  have hr:=HR.out
  rw [if_neg h] at hr
  rw [hr]
  exact ⟨_,_,hW,fun e=>absurd e h⟩
 have x1:(tk==1)=false:=by simp;omega
 have x2:(tk==2)=false:=by simp;omega
 have x3:(tk==3)=false:=by simp;omega
 have x4:(tk==4)=false:=by simp;omega
 have x5:(tk==5)=false:=by simp;omega
 have y1:¬ tk=1:=by omega
 have y2':¬ tk=2:=by omega
 have y3:¬ tk=3:=by omega
 have y4:¬ tk=4:=by omega
 have y5:¬ tk=5:=by omega
 have e0:w1.cell? ⟨w.heap.size,0,none⟩=some (.int .i64 tk):=by rw [Lib.cell_of_heap B1.out];rfl
 go_wp2_with fail
 refine (rwrong_any q N1 M1 0 20 _ w1 W1'.out).mono ?_
 rintro r w2 ⟨⟨v2,rfl⟩,h2⟩
 have W2:Hid (WK w2 q N1 M1 20):=by have a:=h2.out.1;first | exact a | (simp [wrE,h7] at a;exact a)
 have B2:Hid (_):=h2.out.2.heap B1.out hne
 have hK2:KeepT q w w2:=hK1.trans h2.out.2.keep
 have hz2:w.heap.size<w2.heap.size:=lt_heap B2.out
 clear h2 e0
 have e0:w2.cell? ⟨w.heap.size,0,none⟩=some (.int .i64 tk):=by rw [Lib.cell_of_heap B2.out];rfl
 have e1:w2.cell? ⟨w.heap.size,1,none⟩=some (.string nm):=by rw [Lib.cell_of_heap B2.out];rfl
 go_wp2_with fail
 refine (cN.out _).mono ?_
 rintro r w3 ⟨rfl,hb3⟩
 have W3:Hid (WK w3 q N1 M1 20):=W2.out.below hb3
 have B3:Hid (_):=blkB B2.out hb3
 have hK3:KeepT q w w3:=hK2.trans (KeepT.of hb3)
 clear hb3 e0 e1
 have e2:w3.cell? ⟨w.heap.size,2,none⟩=some (.int .i64 vk):=by rw [Lib.cell_of_heap B3.out];rfl
 have e3:w3.cell? ⟨w.heap.size,3,none⟩=some (.int .i64 vn):=by rw [Lib.cell_of_heap B3.out];rfl
 have e4:w3.cell? ⟨w.heap.size,4,none⟩=some (.int .i64 vd):=by rw [Lib.cell_of_heap B3.out];rfl
 have e5:w3.cell? ⟨w.heap.size,5,none⟩=some (.string vs):=by rw [Lib.cell_of_heap B3.out];rfl
 go_wp2_with fail
 refine (cS.out _).mono ?_
 rintro r w4 ⟨rfl,hb4⟩
 have W4:Hid (WK w4 q N1 M1 20):=W3.out.below hb4
 have B4:Hid (_):=blkB B3.out hb4
 have hK4:KeepT q w w4:=hK3.trans (KeepT.of hb4)
 clear hb4 e2 e3 e4 e5
 have e0:w4.cell? ⟨w.heap.size,0,none⟩=some (.int .i64 tk):=by rw [Lib.cell_of_heap B4.out];rfl
 have e1:w4.cell? ⟨w.heap.size,1,none⟩=some (.string nm):=by rw [Lib.cell_of_heap B4.out];rfl
 have e6:w4.cell? ⟨w.heap.size,6,none⟩=some (.slice p nu c):=by rw [Lib.cell_of_heap B4.out];rfl
 have hx:=h7
 cases SB<;>by_cases hn:nm.toList=[]
 all_goals
  go_wp2_with fail
  refine (rwrong_any q N1 M1 _ 1 _ w4 W4.out).mono ?_
  rintro r w5 ⟨⟨v5,rfl⟩,h5⟩
  have W5:Hid (WK w5 q N1 M1 TE):=by
   have a:=h5.out.1
   have b:=HD.out
   simp [wrE,h7,hn,y2'] at a b
   first | (subst b;exact a) | (rw [← b];exact a)
  have hK5:KeepT q w w5:=hK4.trans h5.out.2.keep
  have B5:Hid (_):=h5.out.2.heap B4.out hne
  have y2:w5.cell? ⟨q,2,none⟩=some (.int .i64 TE):=W5.out.e
  have f0:w5.cell? ⟨w.heap.size,0,none⟩=some (.int .i64 tk):=by rw [Lib.cell_of_heap B5.out];rfl
  have f6:w5.cell? ⟨w.heap.size,6,none⟩=some (.slice p nu c):=by rw [Lib.cell_of_heap B5.out];rfl
  clear h5 e0 e1 e6
  have tn:¬ TE=0:=by have b:=HD.out;simp [wrE,h7,hn,y1,y2',y3,y4,y5] at b;omega
  have tn':(TE==0)=false:=by simpa using tn
  have tn'':(TE != 0)=true:=by simpa using tn
  go_wp2
  refine bodyPost_ret (results_none rfl _ _ _) rfl ?_
  exact ⟨⟨_,rfl⟩,hK5,HNo.out tn _ W5.out⟩
theorem rterm_chi (w0:World) (q:Nat) (hq:w0.heap.size≤q) (m:Nat) (ih:∀ (t:Tm) (V:Value) (d:Int) (s:Int×Int) (w:World),SizeOf.sizeOf t≤m→TmsAt w0 V t.subs→t.v.Fits→Below w0.heap.size w0 w→WK w q s.1 s.2 0→OkS s→0≤d→d≤25→
  Calls Tryz.prog 66 #[.pointer (some ⟨q,0,none⟩),.agg #[.int .i64 t.k,.string t.nm,.int .i64 t.v.k,.int .i64 t.v.n,.int .i64 t.v.d,.string t.v.s,V],.int .i64 d] w fun r w'=>(∃ v,r=.returned v)∧Hid (KeepT q w w'∧WQ w' q (trun d s t))) (t:Tm) (V:Value) (d:Int) (s:Int×Int) (w:World) (hm:SizeOf.sizeOf t≤m+1) (hV:TmsAt w0 V t.subs) (hF:t.v.Fits) (hw:Below w0.heap.size w0 w) (hK:WK w q s.1 s.2 0) (hs:OkS s) (hd0:0≤d) (hd1:d≤25) (h7:5<t.k):
  Calls Tryz.prog 66 #[.pointer (some ⟨q,0,none⟩),.agg #[.int .i64 t.k,.string t.nm,.int .i64 t.v.k,.int .i64 t.v.n,.int .i64 t.v.d,.string t.v.s,V],.int .i64 d] w fun r w'=>(∃ v,r=.returned v)∧Hid (KeepT q w w'∧WQ w' q (trun d s t)):=by
 obtain ⟨p,c,rfl,hl,hc,HX0⟩:=hV.form
 have HX:Hid (∀ i (hi:i<t.subs.length),∃ b off u,p=some ⟨b,off,none⟩∧b<w0.heap.size∧TmC w0 b (off+i*7) t.subs[i] u∧TmsAt w0 u t.subs[i].subs∧t.subs[i].v.Fits):=HX0
 have IH:Hid (_):=ih
 have HS:Hid (OkS s):=hs
 have HW:Hid (WK w q s.1 s.2 0):=hK
 have hqw:q<w.heap.size:=hK.lt
 have HM:Hid (SizeOf.sizeOf t≤m+1):=hm
 have hD:=doc_tmE t
 have cN:Hid (∀ W:World,Calls Tryz.prog 94 #[.string t.nm] W fun e w'=>e=.returned (.bool (nameB t.nm))∧Below W.heap.size W w'):=fun W=>rname_any t.nm W
 have cC:Hid (∀ W:World,Calls Tryz.prog 98 #[.agg #[.int .i64 t.v.k,.int .i64 t.v.n,.int .i64 t.v.d,.string t.v.s]] W fun e w'=>e=.returned (.int .i64 t.v.may)∧Below W.heap.size W w'):=fun W=>rcheck_any t.v.k t.v.n t.v.d t.v.s W hF.n1 hF.n2 hF.d1 hF.d2
 have cS:Hid (∀ W:World,Calls Tryz.prog 97 #[.agg #[.int .i64 t.v.k,.int .i64 t.v.n,.int .i64 t.v.d,.string t.v.s],.agg #[.int .i64 0,.int .i64 0,.int .i64 0,.string ⟨#[]⟩]] W fun e w'=>e=.returned (.bool (sameB t.v.k t.v.n t.v.d t.v.s 0 0 0 ⟨#[]⟩))∧Below W.heap.size W w'):=fun W=>rsame_any t.v.k t.v.n t.v.d t.v.s 0 0 0 ⟨#[]⟩ W
 have hte:=trun_eq d s t
 have HE:Hid (ndE d s.1=meetE d s):=nd_meet hs
 obtain ⟨R,eR⟩:∃ R:Int×(Int×Int),Hid (trun d s t=R):=⟨_,rfl⟩
 rw [eR.out] at hte ⊢
 have HTE:Hid (_):=hte
 obtain ⟨ts,ets⟩:∃ ts:List Tm,Hid (t.subs=ts):=⟨_,rfl⟩
 obtain ⟨nu,en⟩:∃ n:Nat,Hid (t.subs.length=n):=⟨_,rfl⟩
 rw [en.out] at hl hc hD ⊢
 have HD:Hid (_):=hD
 clear hV HX0 ih hK hs hm hte hD hF
 generalize nameB t.nm=NB at*
 generalize sameB t.v.k t.v.n t.v.d t.v.s 0 0 0 ⟨#[]⟩=SB at*
 generalize t.v.may=MY at*
 generalize t.v.k=vk at*
 generalize t.v.n=vn at*
 generalize t.v.d=vd at*
 generalize t.v.s=vs at*
 generalize t.k=tk at*
 generalize t.nm=nm at*
 go_enter Tryz.func66,Tryz.ntmps66
 go_wp2_with fail
 refine (rnode_any q s.1 s.2 d _ (HW.out.alloc _) ⟨HS.out.1,by have:=HS.out.2.1;omega⟩).mono ?_
 rintro r w1 ⟨rfl,h1⟩
 have hK1:KeepT q w w1:=(KeepT.of ((Below.refl _ _).alloc (Nat.le_refl _) _)).trans h1.out.2.keep
 have W1:Hid (WK w1 q (s.1+1) (if s.2<d then d else s.2) (ndE d s.1)):=h1.out.1
 have hne:w.heap.size≠q:=by omega
 have hz1:w.heap.size<w1.heap.size:=by have:=h1.out.2.size;simp at this;omega
 have B1:Hid (w1.heap[w.heap.size]? =_):=(h1.out.2.block w.heap.size (by simp) hne).trans (heap_allocA w _)
 have e0:w1.cell? ⟨w.heap.size,0,none⟩=some (.int .i64 tk):=by rw [Lib.cell_of_heap B1.out];rfl
 clear h1
 by_cases hE:ndE d s.1=0
 case neg=>
  have hE':(ndE d s.1==0)=false:=by simpa using hE
  rw [hE']
  go_wp2
  refine bodyPost_ret (results_none rfl _ _ _) rfl ?_
  refine ⟨⟨_,rfl⟩,hK1, ?_⟩
  have h:=HTE.out
  rw [← HE.out,if_neg hE] at h
  rw [h]
  exact ⟨_,_,W1.out,fun e=>absurd e hE⟩
 have hE':(ndE d s.1==0)=true:=by simpa using hE
 rw [hE']
 have W1':Hid (WK w1 q (s.1+1) (if s.2<d then d else s.2) 0):=by have h:=W1.out;rwa [hE] at h
 clear W1
 obtain ⟨N1,hN1⟩:∃ N1,Hid (s.1+1=N1):=⟨_,rfl⟩
 obtain ⟨M1,hM1⟩:∃ M1,Hid ((if s.2<d then d else s.2)=M1):=⟨_,rfl⟩
 rw [hN1.out,hM1.out] at W1'
 have hmS:Hid (meetS d s=(N1,M1)):=by
  have e:meetE d s=0:=by rw [← HE.out];exact hE
  unfold meetS
  rw [if_pos e,← hN1.out,← hM1.out,Int.max_def]
  congr 1
  by_cases h:s.2<d
  ·rw [if_pos h,if_pos (by omega)]
  ·rw [if_neg h];split<;>omega
 have HR:Hid (R=if tmE t=0 then truns (d+1) (N1,M1) t.subs else (tmE t,(N1,M1))):=by
  have h:=HTE.out
  rw [← HE.out,if_pos hE,hmS.out] at h
  exact h
 have hd24:d≤24:=meetE_le (s:=s) (by rw [← HE.out];exact hE)
 have HOk:Hid (OkS (N1,M1)):=by rw [← hmS.out];exact meetS_ok HS.out hd0
 clear HTE HE hE hE' hN1 hM1 hmS
 obtain ⟨TE,hTE⟩:∃ TE,Hid (tmE t=TE):=⟨_,rfl⟩
 rw [hTE.out] at HR HD
 clear hTE e0
 have HNo:Hid (¬ TE=0→∀ W:World,WK W q N1 M1 TE→WQ W q R):=by
  intro h W hW
  have hr:=HR.out
  rw [if_neg h] at hr
  rw [hr]
  exact ⟨_,_,hW,fun e=>absurd e h⟩
 have x1:(tk==1)=false:=by simp;omega
 have x2:(tk==2)=false:=by simp;omega
 have x3:(tk==3)=false:=by simp;omega
 have x4:(tk==4)=false:=by simp;omega
 have x5:(tk==5)=false:=by simp;omega
 have y1:¬ tk=1:=by omega
 have y2':¬ tk=2:=by omega
 have y3:¬ tk=3:=by omega
 have y4:¬ tk=4:=by omega
 have y5:¬ tk=5:=by omega
 have z1:¬ tk<1:=by omega
 have e0:w1.cell? ⟨w.heap.size,0,none⟩=some (.int .i64 tk):=by rw [Lib.cell_of_heap B1.out];rfl
 go_wp2_with fail
 refine (rwrong_any q N1 M1 0 20 _ w1 W1'.out).mono ?_
 rintro r w2 ⟨⟨v2,rfl⟩,h2⟩
 have W2:Hid (WK w2 q N1 M1 20):=by have a:=h2.out.1;first | exact a | (simp [wrE,h7] at a;exact a)
 have B2:Hid (_):=h2.out.2.heap B1.out hne
 have hK2:KeepT q w w2:=hK1.trans h2.out.2.keep
 have hz2:w.heap.size<w2.heap.size:=lt_heap B2.out
 clear h2 e0
 have e0:w2.cell? ⟨w.heap.size,0,none⟩=some (.int .i64 tk):=by rw [Lib.cell_of_heap B2.out];rfl
 have e1:w2.cell? ⟨w.heap.size,1,none⟩=some (.string nm):=by rw [Lib.cell_of_heap B2.out];rfl
 go_wp2_with fail
 refine (cN.out _).mono ?_
 rintro r w3 ⟨rfl,hb3⟩
 have W3:Hid (WK w3 q N1 M1 20):=W2.out.below hb3
 have B3:Hid (_):=blkB B2.out hb3
 have hK3:KeepT q w w3:=hK2.trans (KeepT.of hb3)
 clear hb3 e0 e1
 have e2:w3.cell? ⟨w.heap.size,2,none⟩=some (.int .i64 vk):=by rw [Lib.cell_of_heap B3.out];rfl
 have e3:w3.cell? ⟨w.heap.size,3,none⟩=some (.int .i64 vn):=by rw [Lib.cell_of_heap B3.out];rfl
 have e4:w3.cell? ⟨w.heap.size,4,none⟩=some (.int .i64 vd):=by rw [Lib.cell_of_heap B3.out];rfl
 have e5:w3.cell? ⟨w.heap.size,5,none⟩=some (.string vs):=by rw [Lib.cell_of_heap B3.out];rfl
 go_wp2_with fail
 refine (cS.out _).mono ?_
 rintro r w4 ⟨rfl,hb4⟩
 have W4:Hid (WK w4 q N1 M1 20):=W3.out.below hb4
 have B4:Hid (_):=blkB B3.out hb4
 have hK4:KeepT q w w4:=hK3.trans (KeepT.of hb4)
 clear hb4 e2 e3 e4 e5
 have e0:w4.cell? ⟨w.heap.size,0,none⟩=some (.int .i64 tk):=by rw [Lib.cell_of_heap B4.out];rfl
 have e1:w4.cell? ⟨w.heap.size,1,none⟩=some (.string nm):=by rw [Lib.cell_of_heap B4.out];rfl
 have e6:w4.cell? ⟨w.heap.size,6,none⟩=some (.slice p nu c):=by rw [Lib.cell_of_heap B4.out];rfl
 have hx:=h7
 cases SB<;>by_cases hn:nm.toList=[]
 all_goals
  go_wp2_with fail
  refine (rwrong_any q N1 M1 _ 1 _ w4 W4.out).mono ?_
  rintro r w5 ⟨⟨v5,rfl⟩,h5⟩
  have W5:Hid (WK w5 q N1 M1 TE):=by
   have a:=h5.out.1
   have b:=HD.out
   simp [wrE,h7,hn,y2'] at a b
   first | (subst b;exact a) | (rw [← b];exact a)
  have hK5:KeepT q w w5:=hK4.trans h5.out.2.keep
  have B5:Hid (_):=h5.out.2.heap B4.out hne
  have y2:w5.cell? ⟨q,2,none⟩=some (.int .i64 TE):=W5.out.e
  have f0:w5.cell? ⟨w.heap.size,0,none⟩=some (.int .i64 tk):=by rw [Lib.cell_of_heap B5.out];rfl
  have f6:w5.cell? ⟨w.heap.size,6,none⟩=some (.slice p nu c):=by rw [Lib.cell_of_heap B5.out];rfl
  clear h5 e0 e1 e6
  have tn:¬ TE=0:=by have b:=HD.out;simp [wrE,h7,hn,y1,y2',y3,y4,y5] at b;omega
  have tn':(TE==0)=false:=by simpa using tn
  have tn'':(TE != 0)=true:=by simpa using tn
  go_wp2
  refine bodyPost_ret (results_none rfl _ _ _) rfl ?_
  exact ⟨⟨_,rfl⟩,hK5,HNo.out tn _ W5.out⟩
theorem rterm_c1 (w0:World) (q:Nat) (hq:w0.heap.size≤q) (m:Nat) (ih:∀ (t:Tm) (V:Value) (d:Int) (s:Int×Int) (w:World),SizeOf.sizeOf t≤m→TmsAt w0 V t.subs→t.v.Fits→Below w0.heap.size w0 w→WK w q s.1 s.2 0→OkS s→0≤d→d≤25→
  Calls Tryz.prog 66 #[.pointer (some ⟨q,0,none⟩),.agg #[.int .i64 t.k,.string t.nm,.int .i64 t.v.k,.int .i64 t.v.n,.int .i64 t.v.d,.string t.v.s,V],.int .i64 d] w fun r w'=>(∃ v,r=.returned v)∧Hid (KeepT q w w'∧WQ w' q (trun d s t))) (t:Tm) (V:Value) (d:Int) (s:Int×Int) (w:World) (hm:SizeOf.sizeOf t≤m+1) (hV:TmsAt w0 V t.subs) (hF:t.v.Fits) (hw:Below w0.heap.size w0 w) (hK:WK w q s.1 s.2 0) (hs:OkS s) (hd0:0≤d) (hd1:d≤25) (h7:t.k=1):
  Calls Tryz.prog 66 #[.pointer (some ⟨q,0,none⟩),.agg #[.int .i64 t.k,.string t.nm,.int .i64 t.v.k,.int .i64 t.v.n,.int .i64 t.v.d,.string t.v.s,V],.int .i64 d] w fun r w'=>(∃ v,r=.returned v)∧Hid (KeepT q w w'∧WQ w' q (trun d s t)):=by
 obtain ⟨p,c,rfl,hl,hc,HX0⟩:=hV.form
 have HX:Hid (∀ i (hi:i<t.subs.length),∃ b off u,p=some ⟨b,off,none⟩∧b<w0.heap.size∧TmC w0 b (off+i*7) t.subs[i] u∧TmsAt w0 u t.subs[i].subs∧t.subs[i].v.Fits):=HX0
 have IH:Hid (_):=ih
 have HS:Hid (OkS s):=hs
 have HW:Hid (WK w q s.1 s.2 0):=hK
 have hqw:q<w.heap.size:=hK.lt
 have HM:Hid (SizeOf.sizeOf t≤m+1):=hm
 have hD:=doc_tmE t
 have cN:Hid (∀ W:World,Calls Tryz.prog 94 #[.string t.nm] W fun e w'=>e=.returned (.bool (nameB t.nm))∧Below W.heap.size W w'):=fun W=>rname_any t.nm W
 have cC:Hid (∀ W:World,Calls Tryz.prog 98 #[.agg #[.int .i64 t.v.k,.int .i64 t.v.n,.int .i64 t.v.d,.string t.v.s]] W fun e w'=>e=.returned (.int .i64 t.v.may)∧Below W.heap.size W w'):=fun W=>rcheck_any t.v.k t.v.n t.v.d t.v.s W hF.n1 hF.n2 hF.d1 hF.d2
 have cS:Hid (∀ W:World,Calls Tryz.prog 97 #[.agg #[.int .i64 t.v.k,.int .i64 t.v.n,.int .i64 t.v.d,.string t.v.s],.agg #[.int .i64 0,.int .i64 0,.int .i64 0,.string ⟨#[]⟩]] W fun e w'=>e=.returned (.bool (sameB t.v.k t.v.n t.v.d t.v.s 0 0 0 ⟨#[]⟩))∧Below W.heap.size W w'):=fun W=>rsame_any t.v.k t.v.n t.v.d t.v.s 0 0 0 ⟨#[]⟩ W
 have hte:=trun_eq d s t
 have HE:Hid (ndE d s.1=meetE d s):=nd_meet hs
 obtain ⟨R,eR⟩:∃ R:Int×(Int×Int),Hid (trun d s t=R):=⟨_,rfl⟩
 rw [eR.out] at hte ⊢
 have HTE:Hid (_):=hte
 obtain ⟨ts,ets⟩:∃ ts:List Tm,Hid (t.subs=ts):=⟨_,rfl⟩
 obtain ⟨nu,en⟩:∃ n:Nat,Hid (t.subs.length=n):=⟨_,rfl⟩
 rw [en.out] at hl hc hD ⊢
 have HD:Hid (_):=hD
 clear hV HX0 ih hK hs hm hte hD hF
 generalize nameB t.nm=NB at*
 generalize sameB t.v.k t.v.n t.v.d t.v.s 0 0 0 ⟨#[]⟩=SB at*
 generalize t.v.may=MY at*
 generalize t.v.k=vk at*
 generalize t.v.n=vn at*
 generalize t.v.d=vd at*
 generalize t.v.s=vs at*
 generalize t.k=tk at*
 generalize t.nm=nm at*
 have H7:Hid (tk=1):=h7
 clear h7
 go_enter Tryz.func66,Tryz.ntmps66
 go_wp2_with fail
 refine (rnode_any q s.1 s.2 d _ (HW.out.alloc _) ⟨HS.out.1,by have:=HS.out.2.1;omega⟩).mono ?_
 rintro r w1 ⟨rfl,h1⟩
 have hK1:KeepT q w w1:=(KeepT.of ((Below.refl _ _).alloc (Nat.le_refl _) _)).trans h1.out.2.keep
 have W1:Hid (WK w1 q (s.1+1) (if s.2<d then d else s.2) (ndE d s.1)):=h1.out.1
 have hne:w.heap.size≠q:=by omega
 have hz1:w.heap.size<w1.heap.size:=by have:=h1.out.2.size;simp at this;omega
 have B1:Hid (w1.heap[w.heap.size]? =_):=(h1.out.2.block w.heap.size (by simp) hne).trans (heap_allocA w _)
 have e0:w1.cell? ⟨w.heap.size,0,none⟩=some (.int .i64 tk):=by rw [Lib.cell_of_heap B1.out];rfl
 clear h1
 by_cases hE:ndE d s.1=0
 case neg=>
  have hE':(ndE d s.1==0)=false:=by simpa using hE
  rw [hE']
  go_wp2
  refine bodyPost_ret (results_none rfl _ _ _) rfl ?_
  refine ⟨⟨_,rfl⟩,hK1, ?_⟩
  have h:=HTE.out
  rw [← HE.out,if_neg hE] at h
  rw [h]
  exact ⟨_,_,W1.out,fun e=>absurd e hE⟩
 have hE':(ndE d s.1==0)=true:=by simpa using hE
 rw [hE']
 have W1':Hid (WK w1 q (s.1+1) (if s.2<d then d else s.2) 0):=by have h:=W1.out;rwa [hE] at h
 clear W1
 obtain ⟨N1,hN1⟩:∃ N1,Hid (s.1+1=N1):=⟨_,rfl⟩
 obtain ⟨M1,hM1⟩:∃ M1,Hid ((if s.2<d then d else s.2)=M1):=⟨_,rfl⟩
 rw [hN1.out,hM1.out] at W1'
 have hmS:Hid (meetS d s=(N1,M1)):=by
  have e:meetE d s=0:=by rw [← HE.out];exact hE
  unfold meetS
  rw [if_pos e,← hN1.out,← hM1.out,Int.max_def]
  congr 1
  by_cases h:s.2<d
  ·rw [if_pos h,if_pos (by omega)]
  ·rw [if_neg h];split<;>omega
 have HR:Hid (R=if tmE t=0 then truns (d+1) (N1,M1) t.subs else (tmE t,(N1,M1))):=by
  have h:=HTE.out
  rw [← HE.out,if_pos hE,hmS.out] at h
  exact h
 have hd24:d≤24:=meetE_le (s:=s) (by rw [← HE.out];exact hE)
 have HOk:Hid (OkS (N1,M1)):=by rw [← hmS.out];exact meetS_ok HS.out hd0
 clear HTE HE hE hE' hN1 hM1 hmS
 obtain ⟨TE,hTE⟩:∃ TE,Hid (tmE t=TE):=⟨_,rfl⟩
 rw [hTE.out] at HR HD
 clear hTE e0
 have HNo:Hid (¬ TE=0→∀ W:World,WK W q N1 M1 TE→WQ W q R):=by
  intro h W hW
  have hr:=HR.out
  rw [if_neg h] at hr
  rw [hr]
  exact ⟨_,_,hW,fun e=>absurd e h⟩
 have h7:=H7.out
 subst h7
 have e0:w1.cell? ⟨w.heap.size,0,none⟩=some (.int .i64 1):=by rw [Lib.cell_of_heap B1.out];rfl
 go_wp2_with fail
 refine (rwrong_any q N1 M1 0 20 _ w1 W1'.out).mono ?_
 rintro r w2 ⟨⟨v2,rfl⟩,h2⟩
 have W2:Hid (WK w2 q N1 M1 0):=by have a:=h2.out.1;first | exact a | (simp [wrE,h7] at a;exact a)
 have B2:Hid (_):=h2.out.2.heap B1.out hne
 have hK2:KeepT q w w2:=hK1.trans h2.out.2.keep
 have hz2:w.heap.size<w2.heap.size:=lt_heap B2.out
 clear h2 e0
 have e0:w2.cell? ⟨w.heap.size,0,none⟩=some (.int .i64 1):=by rw [Lib.cell_of_heap B2.out];rfl
 have e1:w2.cell? ⟨w.heap.size,1,none⟩=some (.string nm):=by rw [Lib.cell_of_heap B2.out];rfl
 go_wp2_with fail
 refine (cN.out _).mono ?_
 rintro r w3 ⟨rfl,hb3⟩
 have W3:Hid (WK w3 q N1 M1 0):=W2.out.below hb3
 have B3:Hid (_):=blkB B2.out hb3
 have hK3:KeepT q w w3:=hK2.trans (KeepT.of hb3)
 clear hb3 e0 e1
 have e2:w3.cell? ⟨w.heap.size,2,none⟩=some (.int .i64 vk):=by rw [Lib.cell_of_heap B3.out];rfl
 have e3:w3.cell? ⟨w.heap.size,3,none⟩=some (.int .i64 vn):=by rw [Lib.cell_of_heap B3.out];rfl
 have e4:w3.cell? ⟨w.heap.size,4,none⟩=some (.int .i64 vd):=by rw [Lib.cell_of_heap B3.out];rfl
 have e5:w3.cell? ⟨w.heap.size,5,none⟩=some (.string vs):=by rw [Lib.cell_of_heap B3.out];rfl
 go_wp2_with fail
 refine (cS.out _).mono ?_
 rintro r w4 ⟨rfl,hb4⟩
 have W4:Hid (WK w4 q N1 M1 0):=W3.out.below hb4
 have B4:Hid (_):=blkB B3.out hb4
 have hK4:KeepT q w w4:=hK3.trans (KeepT.of hb4)
 clear hb4 e2 e3 e4 e5
 have e0:w4.cell? ⟨w.heap.size,0,none⟩=some (.int .i64 1):=by rw [Lib.cell_of_heap B4.out];rfl
 have e1:w4.cell? ⟨w.heap.size,1,none⟩=some (.string nm):=by rw [Lib.cell_of_heap B4.out];rfl
 have e6:w4.cell? ⟨w.heap.size,6,none⟩=some (.slice p nu c):=by rw [Lib.cell_of_heap B4.out];rfl
 have hxi:((nu:Int)=2)=(nu=2):=by apply propext;omega
 cases NB<;>cases SB<;>by_cases hx:nu=0
 all_goals
  go_wp2_with fail
  refine (rwrong_any q N1 M1 _ 1 _ w4 W4.out).mono ?_
  rintro r w5 ⟨⟨v5,rfl⟩,h5⟩
  have W5:Hid (WK w5 q N1 M1 TE):=by
   have a:=h5.out.1
   have b:=HD.out
   simp [wrE,hx] at a b
   first | (subst b;exact a) | (rw [← b];exact a)
  have hK5:KeepT q w w5:=hK4.trans h5.out.2.keep
  have B5:Hid (_):=h5.out.2.heap B4.out hne
  have y2:w5.cell? ⟨q,2,none⟩=some (.int .i64 TE):=W5.out.e
  have f0:w5.cell? ⟨w.heap.size,0,none⟩=some (.int .i64 1):=by rw [Lib.cell_of_heap B5.out];rfl
  have f6:w5.cell? ⟨w.heap.size,6,none⟩=some (.slice p nu c):=by rw [Lib.cell_of_heap B5.out];rfl
  clear h5 e0 e1 e6
  first
  | have tn:¬ TE=0:=by have b:=HD.out;simp [wrE,hx] at b;omega
    have tn':(TE==0)=false:=by simpa using tn
    have tn'':(TE != 0)=true:=by simpa using tn
    go_wp2
    refine bodyPost_ret (results_none rfl _ _ _) rfl ?_
    exact ⟨⟨_,rfl⟩,hK5,HNo.out tn _ W5.out⟩
  | have tz:TE=0:=by have b:=HD.out;simp [wrE,hx] at b;omega
    subst tz
    have HL:Hid (R=truns (d+1) (N1,M1) t.subs):=by have h:=HR.out;rw [if_pos rfl] at h;exact h
    clear HD HR HNo cN cC cS hx
    go_wp2
    go_loopw [11] (fun v wr=>∃ (k:Nat) (N M E:Int),k≤nu∧v=.int .i64 k∧KeepT q w5 wr∧Hid (WK wr q N M E)∧Hid (E=0→OkS (N,M)∧R=truns (d+1) (N,M) (t.subs.drop k))∧Hid (¬ E=0→R.1=E)) (fun v _=>nu - (intOf v).toNat)
    case atStart=>exact ⟨0,N1,M1,0,Nat.zero_le _,rfl,KeepT.refl _ _,W5,fun _=>⟨HOk.out,by rw [List.drop_zero];exact HL.out⟩,fun h=>absurd rfl h⟩
    case round=>
     obtain ⟨k,N,M,E,hk,rfl,hKr,hWr,hr0,hr1⟩:=hrel
     have Br:Hid (_):=(hKr.block w.heap.size (lt_heap B5.out) hne).trans B5.out
     have r6:wr.cell? ⟨w.heap.size,6,none⟩=some (.slice p nu c):=by rw [Lib.cell_of_heap Br.out];rfl
     by_cases hlt:k<nu
     case neg=>
      have c2:¬ (k:Int)<nu:=by omega
      go_wp2
      go_end0
      refine ⟨⟨_,rfl⟩,hK5.trans hKr, ?_⟩
      by_cases hE0:E=0
      ·have h:=(hr0.out hE0).2
       rw [List.drop_eq_nil_of_le (by have:=en.out;omega),truns_nil] at h
       rw [h]
       subst hE0
       exact ⟨N,M,hWr.out,fun _=>⟨rfl,rfl⟩⟩
      ·have h:=hr1.out hE0
       exact ⟨N,M,by rw [h];exact hWr.out,fun e=>absurd (h.symm.trans e) hE0⟩
     have hlt':(k:Int)<nu:=by omega
     have kx:k<t.subs.length:=by have:=en.out;omega
     obtain ⟨b,off,u,rfl,hb,TC,TS,TF⟩:=HX.out k kx
     have hBr:Below w0.heap.size w0 wr:=hw.trans ((hK5.trans hKr).below (B:=w0.heap.size) hq (Nat.le_of_lt hqw))
     obtain ⟨a0,a1,a2,a3,a4,a5,a6⟩:=TC.below hBr hb
     have hsz:SizeOf.sizeOf t.subs[k]≤m:=by
      have h1:=mem_lt k kx
      have h2:=t.subs_lt
      have h3:=HM.out
      unfold Hid at h3
      omega
     have cT:Hid (Calls Tryz.prog 66 #[.pointer (some ⟨q,0,none⟩),.agg #[.int .i64 t.subs[k].k,.string t.subs[k].nm,.int .i64 t.subs[k].v.k,.int .i64 t.subs[k].v.n,.int .i64 t.subs[k].v.d,.string t.subs[k].v.s,u],.int .i64 (d+1)] wr fun r w'=>(∃ v,r=.returned v)∧Hid (KeepT q wr w'∧∃ N' M' E',WK w' q N' M' E'∧(E'=0→OkS (N',M')∧R=truns (d+1) (N',M') (t.subs.drop (k+1)))∧(¬ E'=0→R.1=E'))):=by
      by_cases hE0:E=0
      ·subst hE0
       obtain ⟨o1,o2⟩:=hr0.out rfl
       refine (IH.out t.subs[k] u (d+1) (N,M) wr hsz TS TF hBr hWr.out o1 (by omega) (by omega)).mono ?_
       rintro r w' ⟨hv,h⟩
       obtain ⟨N',M',g1,g2⟩:=h.out.2
       rw [List.drop_eq_getElem_cons kx,truns_cons] at o2
       refine ⟨hv,h.out.1,N',M',_,g1,fun e=> ?_,fun e=> ?_⟩
       ·obtain ⟨rfl,rfl⟩:=g2 e
        rw [if_pos e] at o2
        have ok:=truns_ok (SizeOf.sizeOf [t.subs[k]]) [t.subs[k]] (d+1) (N,M) (Nat.le_refl _) o1 (by omega)
        rw [truns_cons,if_pos e,truns_nil] at ok
        exact ⟨ok,o2⟩
       ·rw [if_neg e] at o2
        rw [o2]
      ·refine (rterm_no q N M E (d+1) _ _ _ _ _ _ u wr hWr.out hE0).mono ?_
       rintro r w' ⟨hv,h⟩
       exact ⟨hv,KeepT.of h.out.1,N,M,E,h.out.2,fun e=>absurd e hE0,fun _=>hr1.out hE0⟩
     clear hr0 hr1 TC TS TF IH HX
     generalize t.subs[k].k=k0 at*
     generalize t.subs[k].nm=k1 at*
     generalize t.subs[k].v.k=k2 at*
     generalize t.subs[k].v.n=k3 at*
     generalize t.subs[k].v.d=k4 at*
     generalize t.subs[k].v.s=k5 at*
     have nw:IntKind.i64.wrap (d+1)=d+1:=by rw [IntKind.wrap_i64];omega
     have nw2:wrap64 (d+1)=d+1:=by unfold wrap64;omega
     go_wp2_with fail
     refine cT.out.mono ?_
     rintro r w6 ⟨⟨v6,rfl⟩,h6⟩
     obtain ⟨hk6,N',M',E',g1,g2,g3⟩:=h6.out
     have HP:Hid (WK w6 q N' M' E'∧(E'=0→OkS (N',M')∧R=truns (d+1) (N',M') (t.subs.drop (k+1)))∧(¬ E'=0→R.1=E')):=⟨g1,g2,g3⟩
     have hK6:KeepT q w5 w6:=hKr.trans hk6
     clear g1 g2 g3 h6 cT
     go_wp2
     exact ⟨⟨k+1,N',M',E',by omega,by go_num,hK6,HP.out.1,HP.out.2.1,HP.out.2.2⟩,by simp [intOf];omega⟩
theorem rterm_c2 (w0:World) (q:Nat) (hq:w0.heap.size≤q) (m:Nat) (ih:∀ (t:Tm) (V:Value) (d:Int) (s:Int×Int) (w:World),SizeOf.sizeOf t≤m→TmsAt w0 V t.subs→t.v.Fits→Below w0.heap.size w0 w→WK w q s.1 s.2 0→OkS s→0≤d→d≤25→
  Calls Tryz.prog 66 #[.pointer (some ⟨q,0,none⟩),.agg #[.int .i64 t.k,.string t.nm,.int .i64 t.v.k,.int .i64 t.v.n,.int .i64 t.v.d,.string t.v.s,V],.int .i64 d] w fun r w'=>(∃ v,r=.returned v)∧Hid (KeepT q w w'∧WQ w' q (trun d s t))) (t:Tm) (V:Value) (d:Int) (s:Int×Int) (w:World) (hm:SizeOf.sizeOf t≤m+1) (hV:TmsAt w0 V t.subs) (hF:t.v.Fits) (hw:Below w0.heap.size w0 w) (hK:WK w q s.1 s.2 0) (hs:OkS s) (hd0:0≤d) (hd1:d≤25) (h7:t.k=2):
  Calls Tryz.prog 66 #[.pointer (some ⟨q,0,none⟩),.agg #[.int .i64 t.k,.string t.nm,.int .i64 t.v.k,.int .i64 t.v.n,.int .i64 t.v.d,.string t.v.s,V],.int .i64 d] w fun r w'=>(∃ v,r=.returned v)∧Hid (KeepT q w w'∧WQ w' q (trun d s t)):=by
 obtain ⟨p,c,rfl,hl,hc,HX0⟩:=hV.form
 have HX:Hid (∀ i (hi:i<t.subs.length),∃ b off u,p=some ⟨b,off,none⟩∧b<w0.heap.size∧TmC w0 b (off+i*7) t.subs[i] u∧TmsAt w0 u t.subs[i].subs∧t.subs[i].v.Fits):=HX0
 have IH:Hid (_):=ih
 have HS:Hid (OkS s):=hs
 have HW:Hid (WK w q s.1 s.2 0):=hK
 have hqw:q<w.heap.size:=hK.lt
 have HM:Hid (SizeOf.sizeOf t≤m+1):=hm
 have hD:=doc_tmE t
 have cN:Hid (∀ W:World,Calls Tryz.prog 94 #[.string t.nm] W fun e w'=>e=.returned (.bool (nameB t.nm))∧Below W.heap.size W w'):=fun W=>rname_any t.nm W
 have cC:Hid (∀ W:World,Calls Tryz.prog 98 #[.agg #[.int .i64 t.v.k,.int .i64 t.v.n,.int .i64 t.v.d,.string t.v.s]] W fun e w'=>e=.returned (.int .i64 t.v.may)∧Below W.heap.size W w'):=fun W=>rcheck_any t.v.k t.v.n t.v.d t.v.s W hF.n1 hF.n2 hF.d1 hF.d2
 have cS:Hid (∀ W:World,Calls Tryz.prog 97 #[.agg #[.int .i64 t.v.k,.int .i64 t.v.n,.int .i64 t.v.d,.string t.v.s],.agg #[.int .i64 0,.int .i64 0,.int .i64 0,.string ⟨#[]⟩]] W fun e w'=>e=.returned (.bool (sameB t.v.k t.v.n t.v.d t.v.s 0 0 0 ⟨#[]⟩))∧Below W.heap.size W w'):=fun W=>rsame_any t.v.k t.v.n t.v.d t.v.s 0 0 0 ⟨#[]⟩ W
 have hte:=trun_eq d s t
 have HE:Hid (ndE d s.1=meetE d s):=nd_meet hs
 obtain ⟨R,eR⟩:∃ R:Int×(Int×Int),Hid (trun d s t=R):=⟨_,rfl⟩
 rw [eR.out] at hte ⊢
 have HTE:Hid (_):=hte
 obtain ⟨ts,ets⟩:∃ ts:List Tm,Hid (t.subs=ts):=⟨_,rfl⟩
 obtain ⟨nu,en⟩:∃ n:Nat,Hid (t.subs.length=n):=⟨_,rfl⟩
 rw [en.out] at hl hc hD ⊢
 have HD:Hid (_):=hD
 clear hV HX0 ih hK hs hm hte hD hF
 generalize nameB t.nm=NB at*
 generalize sameB t.v.k t.v.n t.v.d t.v.s 0 0 0 ⟨#[]⟩=SB at*
 generalize t.v.may=MY at*
 generalize t.v.k=vk at*
 generalize t.v.n=vn at*
 generalize t.v.d=vd at*
 generalize t.v.s=vs at*
 generalize t.k=tk at*
 generalize t.nm=nm at*
 have H7:Hid (tk=2):=h7
 clear h7
 go_enter Tryz.func66,Tryz.ntmps66
 go_wp2_with fail
 refine (rnode_any q s.1 s.2 d _ (HW.out.alloc _) ⟨HS.out.1,by have:=HS.out.2.1;omega⟩).mono ?_
 rintro r w1 ⟨rfl,h1⟩
 have hK1:KeepT q w w1:=(KeepT.of ((Below.refl _ _).alloc (Nat.le_refl _) _)).trans h1.out.2.keep
 have W1:Hid (WK w1 q (s.1+1) (if s.2<d then d else s.2) (ndE d s.1)):=h1.out.1
 have hne:w.heap.size≠q:=by omega
 have hz1:w.heap.size<w1.heap.size:=by have:=h1.out.2.size;simp at this;omega
 have B1:Hid (w1.heap[w.heap.size]? =_):=(h1.out.2.block w.heap.size (by simp) hne).trans (heap_allocA w _)
 have e0:w1.cell? ⟨w.heap.size,0,none⟩=some (.int .i64 tk):=by rw [Lib.cell_of_heap B1.out];rfl
 clear h1
 by_cases hE:ndE d s.1=0
 case neg=>
  have hE':(ndE d s.1==0)=false:=by simpa using hE
  rw [hE']
  go_wp2
  refine bodyPost_ret (results_none rfl _ _ _) rfl ?_
  refine ⟨⟨_,rfl⟩,hK1, ?_⟩
  have h:=HTE.out
  rw [← HE.out,if_neg hE] at h
  rw [h]
  exact ⟨_,_,W1.out,fun e=>absurd e hE⟩
 have hE':(ndE d s.1==0)=true:=by simpa using hE
 rw [hE']
 have W1':Hid (WK w1 q (s.1+1) (if s.2<d then d else s.2) 0):=by have h:=W1.out;rwa [hE] at h
 clear W1
 obtain ⟨N1,hN1⟩:∃ N1,Hid (s.1+1=N1):=⟨_,rfl⟩
 obtain ⟨M1,hM1⟩:∃ M1,Hid ((if s.2<d then d else s.2)=M1):=⟨_,rfl⟩
 rw [hN1.out,hM1.out] at W1'
 have hmS:Hid (meetS d s=(N1,M1)):=by
  have e:meetE d s=0:=by rw [← HE.out];exact hE
  unfold meetS
  rw [if_pos e,← hN1.out,← hM1.out,Int.max_def]
  congr 1
  by_cases h:s.2<d
  ·rw [if_pos h,if_pos (by omega)]
  ·rw [if_neg h];split<;>omega
 have HR:Hid (R=if tmE t=0 then truns (d+1) (N1,M1) t.subs else (tmE t,(N1,M1))):=by
  have h:=HTE.out
  rw [← HE.out,if_pos hE,hmS.out] at h
  exact h
 have hd24:d≤24:=meetE_le (s:=s) (by rw [← HE.out];exact hE)
 have HOk:Hid (OkS (N1,M1)):=by rw [← hmS.out];exact meetS_ok HS.out hd0
 clear HTE HE hE hE' hN1 hM1 hmS
 obtain ⟨TE,hTE⟩:∃ TE,Hid (tmE t=TE):=⟨_,rfl⟩
 rw [hTE.out] at HR HD
 clear hTE e0
 have HNo:Hid (¬ TE=0→∀ W:World,WK W q N1 M1 TE→WQ W q R):=by
  intro h W hW
  have hr:=HR.out
  rw [if_neg h] at hr
  rw [hr]
  exact ⟨_,_,hW,fun e=>absurd e h⟩
 have h7:=H7.out
 subst h7
 have e0:w1.cell? ⟨w.heap.size,0,none⟩=some (.int .i64 2):=by rw [Lib.cell_of_heap B1.out];rfl
 go_wp2_with fail
 refine (rwrong_any q N1 M1 0 20 _ w1 W1'.out).mono ?_
 rintro r w2 ⟨⟨v2,rfl⟩,h2⟩
 have W2:Hid (WK w2 q N1 M1 0):=by have a:=h2.out.1;first | exact a | (simp [wrE,h7] at a;exact a)
 have B2:Hid (_):=h2.out.2.heap B1.out hne
 have hK2:KeepT q w w2:=hK1.trans h2.out.2.keep
 have hz2:w.heap.size<w2.heap.size:=lt_heap B2.out
 clear h2 e0
 have e0:w2.cell? ⟨w.heap.size,0,none⟩=some (.int .i64 2):=by rw [Lib.cell_of_heap B2.out];rfl
 have e1:w2.cell? ⟨w.heap.size,1,none⟩=some (.string nm):=by rw [Lib.cell_of_heap B2.out];rfl
 go_wp2_with fail
 refine (cN.out _).mono ?_
 rintro r w3 ⟨rfl,hb3⟩
 have W3:Hid (WK w3 q N1 M1 0):=W2.out.below hb3
 have B3:Hid (_):=blkB B2.out hb3
 have hK3:KeepT q w w3:=hK2.trans (KeepT.of hb3)
 clear hb3 e0 e1
 have e2:w3.cell? ⟨w.heap.size,2,none⟩=some (.int .i64 vk):=by rw [Lib.cell_of_heap B3.out];rfl
 have e3:w3.cell? ⟨w.heap.size,3,none⟩=some (.int .i64 vn):=by rw [Lib.cell_of_heap B3.out];rfl
 have e4:w3.cell? ⟨w.heap.size,4,none⟩=some (.int .i64 vd):=by rw [Lib.cell_of_heap B3.out];rfl
 have e5:w3.cell? ⟨w.heap.size,5,none⟩=some (.string vs):=by rw [Lib.cell_of_heap B3.out];rfl
 go_wp2_with fail
 refine (cS.out _).mono ?_
 rintro r w4 ⟨rfl,hb4⟩
 have W4:Hid (WK w4 q N1 M1 0):=W3.out.below hb4
 have B4:Hid (_):=blkB B3.out hb4
 have hK4:KeepT q w w4:=hK3.trans (KeepT.of hb4)
 clear hb4 e2 e3 e4 e5
 have e0:w4.cell? ⟨w.heap.size,0,none⟩=some (.int .i64 2):=by rw [Lib.cell_of_heap B4.out];rfl
 have e1:w4.cell? ⟨w.heap.size,1,none⟩=some (.string nm):=by rw [Lib.cell_of_heap B4.out];rfl
 have e6:w4.cell? ⟨w.heap.size,6,none⟩=some (.slice p nu c):=by rw [Lib.cell_of_heap B4.out];rfl
 by_cases hn:nm.toList=[]
 case neg=>
  go_wp2_with fail
  refine (rwrong_any q N1 M1 _ 1 _ w4 W4.out).mono ?_
  rintro r w5 ⟨⟨v5,rfl⟩,h5⟩
  have W5:Hid (WK w5 q N1 M1 1):=by have a:=h5.out.1;first | exact a | (simp [wrE,hn] at a;exact a)
  have hK5:KeepT q w w5:=hK4.trans h5.out.2.keep
  have B5:Hid (_):=h5.out.2.heap B4.out hne
  clear h5 e0 e1 e6
  have e0:w5.cell? ⟨w.heap.size,0,none⟩=some (.int .i64 2):=by rw [Lib.cell_of_heap B5.out];rfl
  have e2:w5.cell? ⟨w.heap.size,2,none⟩=some (.int .i64 vk):=by rw [Lib.cell_of_heap B5.out];rfl
  have e3:w5.cell? ⟨w.heap.size,3,none⟩=some (.int .i64 vn):=by rw [Lib.cell_of_heap B5.out];rfl
  have e4:w5.cell? ⟨w.heap.size,4,none⟩=some (.int .i64 vd):=by rw [Lib.cell_of_heap B5.out];rfl
  have e5:w5.cell? ⟨w.heap.size,5,none⟩=some (.string vs):=by rw [Lib.cell_of_heap B5.out];rfl
  go_wp2_with fail
  refine (cC.out _).mono ?_
  rintro r w6 ⟨rfl,hb6⟩
  have W6:Hid (WK w6 q N1 M1 1):=W5.out.below hb6
  have B6:Hid (_):=blkB B5.out hb6
  have hK6:KeepT q w w6:=hK5.trans (KeepT.of hb6)
  clear hb6 e0 e2 e3 e4 e5 W5 B5 hK5 W4 B4 hK4
  go_wp2_with fail
  refine (rwrong_any q N1 M1 1 _ _ w6 W6.out).mono ?_
  rintro r w5 ⟨⟨v5,rfl⟩,h5⟩
  have W5:Hid (WK w5 q N1 M1 TE):=by
   have a:=h5.out.1
   have b:=HD.out
   simp [wrE,hn] at a b
   first | (subst b;exact a) | (rw [← b];exact a)
  have hK5:KeepT q w w5:=hK6.trans h5.out.2.keep
  have B5:Hid (_):=h5.out.2.heap B6.out hne
  have y2:w5.cell? ⟨q,2,none⟩=some (.int .i64 TE):=W5.out.e
  have f0:w5.cell? ⟨w.heap.size,0,none⟩=some (.int .i64 2):=by rw [Lib.cell_of_heap B5.out];rfl
  have f6:w5.cell? ⟨w.heap.size,6,none⟩=some (.slice p nu c):=by rw [Lib.cell_of_heap B5.out];rfl
  clear h5
  have tn:¬ TE=0:=by have b:=HD.out;simp [wrE,hn] at b;omega
  have tn':(TE==0)=false:=by simpa using tn
  have tn'':(TE != 0)=true:=by simpa using tn
  go_wp2
  refine bodyPost_ret (results_none rfl _ _ _) rfl ?_
  exact ⟨⟨_,rfl⟩,hK5,HNo.out tn _ W5.out⟩
 by_cases hx:nu=0
 case neg=>
  go_wp2_with fail
  refine (rwrong_any q N1 M1 _ 1 _ w4 W4.out).mono ?_
  rintro r w5 ⟨⟨v5,rfl⟩,h5⟩
  have W5:Hid (WK w5 q N1 M1 1):=by have a:=h5.out.1;first | exact a | (simp [wrE,hx] at a;exact a)
  have hK5:KeepT q w w5:=hK4.trans h5.out.2.keep
  have B5:Hid (_):=h5.out.2.heap B4.out hne
  clear h5 e0 e1 e6
  have e0:w5.cell? ⟨w.heap.size,0,none⟩=some (.int .i64 2):=by rw [Lib.cell_of_heap B5.out];rfl
  have e2:w5.cell? ⟨w.heap.size,2,none⟩=some (.int .i64 vk):=by rw [Lib.cell_of_heap B5.out];rfl
  have e3:w5.cell? ⟨w.heap.size,3,none⟩=some (.int .i64 vn):=by rw [Lib.cell_of_heap B5.out];rfl
  have e4:w5.cell? ⟨w.heap.size,4,none⟩=some (.int .i64 vd):=by rw [Lib.cell_of_heap B5.out];rfl
  have e5:w5.cell? ⟨w.heap.size,5,none⟩=some (.string vs):=by rw [Lib.cell_of_heap B5.out];rfl
  go_wp2_with fail
  refine (cC.out _).mono ?_
  rintro r w6 ⟨rfl,hb6⟩
  have W6:Hid (WK w6 q N1 M1 1):=W5.out.below hb6
  have B6:Hid (_):=blkB B5.out hb6
  have hK6:KeepT q w w6:=hK5.trans (KeepT.of hb6)
  clear hb6 e0 e2 e3 e4 e5 W5 B5 hK5 W4 B4 hK4
  go_wp2_with fail
  refine (rwrong_any q N1 M1 1 _ _ w6 W6.out).mono ?_
  rintro r w5 ⟨⟨v5,rfl⟩,h5⟩
  have W5:Hid (WK w5 q N1 M1 TE):=by
   have a:=h5.out.1
   have b:=HD.out
   simp [wrE,hn,hx] at a b
   first | (subst b;exact a) | (rw [← b];exact a)
  have hK5:KeepT q w w5:=hK6.trans h5.out.2.keep
  have B5:Hid (_):=h5.out.2.heap B6.out hne
  have y2:w5.cell? ⟨q,2,none⟩=some (.int .i64 TE):=W5.out.e
  have f0:w5.cell? ⟨w.heap.size,0,none⟩=some (.int .i64 2):=by rw [Lib.cell_of_heap B5.out];rfl
  have f6:w5.cell? ⟨w.heap.size,6,none⟩=some (.slice p nu c):=by rw [Lib.cell_of_heap B5.out];rfl
  clear h5
  have tn:¬ TE=0:=by have b:=HD.out;simp [wrE,hn,hx] at b;omega
  have tn':(TE==0)=false:=by simpa using tn
  have tn'':(TE != 0)=true:=by simpa using tn
  go_wp2
  refine bodyPost_ret (results_none rfl _ _ _) rfl ?_
  exact ⟨⟨_,rfl⟩,hK5,HNo.out tn _ W5.out⟩
 by_cases hm:MY=0
 case neg=>
  go_wp2_with fail
  refine (rwrong_any q N1 M1 _ 1 _ w4 W4.out).mono ?_
  rintro r w5 ⟨⟨v5,rfl⟩,h5⟩
  have W5:Hid (WK w5 q N1 M1 0):=by have a:=h5.out.1;first | exact a | (simp [wrE,hn,hx,hm] at a;exact a)
  have hK5:KeepT q w w5:=hK4.trans h5.out.2.keep
  have B5:Hid (_):=h5.out.2.heap B4.out hne
  clear h5 e0 e1 e6
  have e0:w5.cell? ⟨w.heap.size,0,none⟩=some (.int .i64 2):=by rw [Lib.cell_of_heap B5.out];rfl
  have e2:w5.cell? ⟨w.heap.size,2,none⟩=some (.int .i64 vk):=by rw [Lib.cell_of_heap B5.out];rfl
  have e3:w5.cell? ⟨w.heap.size,3,none⟩=some (.int .i64 vn):=by rw [Lib.cell_of_heap B5.out];rfl
  have e4:w5.cell? ⟨w.heap.size,4,none⟩=some (.int .i64 vd):=by rw [Lib.cell_of_heap B5.out];rfl
  have e5:w5.cell? ⟨w.heap.size,5,none⟩=some (.string vs):=by rw [Lib.cell_of_heap B5.out];rfl
  go_wp2_with fail
  refine (cC.out _).mono ?_
  rintro r w6 ⟨rfl,hb6⟩
  have W6:Hid (WK w6 q N1 M1 0):=W5.out.below hb6
  have B6:Hid (_):=blkB B5.out hb6
  have hK6:KeepT q w w6:=hK5.trans (KeepT.of hb6)
  clear hb6 e0 e2 e3 e4 e5 W5 B5 hK5 W4 B4 hK4
  go_wp2_with fail
  refine (rwrong_any q N1 M1 0 _ _ w6 W6.out).mono ?_
  rintro r w5 ⟨⟨v5,rfl⟩,h5⟩
  have W5:Hid (WK w5 q N1 M1 TE):=by
   have a:=h5.out.1
   have b:=HD.out
   simp [wrE,hn,hx,hm] at a b
   first | (subst b;exact a) | (rw [← b];exact a)
  have hK5:KeepT q w w5:=hK6.trans h5.out.2.keep
  have B5:Hid (_):=h5.out.2.heap B6.out hne
  have y2:w5.cell? ⟨q,2,none⟩=some (.int .i64 TE):=W5.out.e
  have f0:w5.cell? ⟨w.heap.size,0,none⟩=some (.int .i64 2):=by rw [Lib.cell_of_heap B5.out];rfl
  have f6:w5.cell? ⟨w.heap.size,6,none⟩=some (.slice p nu c):=by rw [Lib.cell_of_heap B5.out];rfl
  clear h5
  have tn:¬ TE=0:=by have b:=HD.out;simp [wrE,hn,hx,hm] at b;omega
  have tn':(TE==0)=false:=by simpa using tn
  have tn'':(TE != 0)=true:=by simpa using tn
  go_wp2
  refine bodyPost_ret (results_none rfl _ _ _) rfl ?_
  exact ⟨⟨_,rfl⟩,hK5,HNo.out tn _ W5.out⟩
 subst hm
 go_wp2_with fail
 refine (rwrong_any q N1 M1 _ 1 _ w4 W4.out).mono ?_
 rintro r w5 ⟨⟨v5,rfl⟩,h5⟩
 have W5:Hid (WK w5 q N1 M1 0):=by have a:=h5.out.1;first | exact a | (simp [wrE,hn,hx] at a;exact a)
 have hK5:KeepT q w w5:=hK4.trans h5.out.2.keep
 have B5:Hid (_):=h5.out.2.heap B4.out hne
 clear h5 e0 e1 e6
 have e0:w5.cell? ⟨w.heap.size,0,none⟩=some (.int .i64 2):=by rw [Lib.cell_of_heap B5.out];rfl
 have e2:w5.cell? ⟨w.heap.size,2,none⟩=some (.int .i64 vk):=by rw [Lib.cell_of_heap B5.out];rfl
 have e3:w5.cell? ⟨w.heap.size,3,none⟩=some (.int .i64 vn):=by rw [Lib.cell_of_heap B5.out];rfl
 have e4:w5.cell? ⟨w.heap.size,4,none⟩=some (.int .i64 vd):=by rw [Lib.cell_of_heap B5.out];rfl
 have e5:w5.cell? ⟨w.heap.size,5,none⟩=some (.string vs):=by rw [Lib.cell_of_heap B5.out];rfl
 go_wp2_with fail
 refine (cC.out _).mono ?_
 rintro r w6 ⟨rfl,hb6⟩
 have W6:Hid (WK w6 q N1 M1 0):=W5.out.below hb6
 have B6:Hid (_):=blkB B5.out hb6
 have hK6:KeepT q w w6:=hK5.trans (KeepT.of hb6)
 clear hb6 e0 e2 e3 e4 e5 W5 B5 hK5 W4 B4 hK4
 go_wp2_with fail
 refine (rwrong_any q N1 M1 0 _ _ w6 W6.out).mono ?_
 rintro r w5 ⟨⟨v5,rfl⟩,h5⟩
 have W5:Hid (WK w5 q N1 M1 TE):=by
  have a:=h5.out.1
  have b:=HD.out
  simp [wrE,hn,hx] at a b
  first | (subst b;exact a) | (rw [← b];exact a)
 have hK5:KeepT q w w5:=hK6.trans h5.out.2.keep
 have B5:Hid (_):=h5.out.2.heap B6.out hne
 have y2:w5.cell? ⟨q,2,none⟩=some (.int .i64 TE):=W5.out.e
 have f0:w5.cell? ⟨w.heap.size,0,none⟩=some (.int .i64 2):=by rw [Lib.cell_of_heap B5.out];rfl
 have f6:w5.cell? ⟨w.heap.size,6,none⟩=some (.slice p nu c):=by rw [Lib.cell_of_heap B5.out];rfl
 clear h5
 have tz:TE=0:=by have b:=HD.out;simp [wrE,hn,hx] at b;omega
 subst tz
 have HL:Hid (R=truns (d+1) (N1,M1) t.subs):=by have h:=HR.out;rw [if_pos rfl] at h;exact h
 clear HD HR HNo cN cC cS hx
 go_wp2
 go_loopw [11] (fun v wr=>∃ (k:Nat) (N M E:Int),k≤nu∧v=.int .i64 k∧KeepT q w5 wr∧Hid (WK wr q N M E)∧Hid (E=0→OkS (N,M)∧R=truns (d+1) (N,M) (t.subs.drop k))∧Hid (¬ E=0→R.1=E)) (fun v _=>nu - (intOf v).toNat)
 case atStart=>exact ⟨0,N1,M1,0,Nat.zero_le _,rfl,KeepT.refl _ _,W5,fun _=>⟨HOk.out,by rw [List.drop_zero];exact HL.out⟩,fun h=>absurd rfl h⟩
 case round=>
  obtain ⟨k,N,M,E,hk,rfl,hKr,hWr,hr0,hr1⟩:=hrel
  have Br:Hid (_):=(hKr.block w.heap.size (lt_heap B5.out) hne).trans B5.out
  have r6:wr.cell? ⟨w.heap.size,6,none⟩=some (.slice p nu c):=by rw [Lib.cell_of_heap Br.out];rfl
  by_cases hlt:k<nu
  case neg=>
   have c2:¬ (k:Int)<nu:=by omega
   go_wp2
   go_end0
   refine ⟨⟨_,rfl⟩,hK5.trans hKr, ?_⟩
   by_cases hE0:E=0
   ·have h:=(hr0.out hE0).2
    rw [List.drop_eq_nil_of_le (by have:=en.out;omega),truns_nil] at h
    rw [h]
    subst hE0
    exact ⟨N,M,hWr.out,fun _=>⟨rfl,rfl⟩⟩
   ·have h:=hr1.out hE0
    exact ⟨N,M,by rw [h];exact hWr.out,fun e=>absurd (h.symm.trans e) hE0⟩
  have hlt':(k:Int)<nu:=by omega
  have kx:k<t.subs.length:=by have:=en.out;omega
  obtain ⟨b,off,u,rfl,hb,TC,TS,TF⟩:=HX.out k kx
  have hBr:Below w0.heap.size w0 wr:=hw.trans ((hK5.trans hKr).below (B:=w0.heap.size) hq (Nat.le_of_lt hqw))
  obtain ⟨a0,a1,a2,a3,a4,a5,a6⟩:=TC.below hBr hb
  have hsz:SizeOf.sizeOf t.subs[k]≤m:=by
   have h1:=mem_lt k kx
   have h2:=t.subs_lt
   have h3:=HM.out
   unfold Hid at h3
   omega
  have cT:Hid (Calls Tryz.prog 66 #[.pointer (some ⟨q,0,none⟩),.agg #[.int .i64 t.subs[k].k,.string t.subs[k].nm,.int .i64 t.subs[k].v.k,.int .i64 t.subs[k].v.n,.int .i64 t.subs[k].v.d,.string t.subs[k].v.s,u],.int .i64 (d+1)] wr fun r w'=>(∃ v,r=.returned v)∧Hid (KeepT q wr w'∧∃ N' M' E',WK w' q N' M' E'∧(E'=0→OkS (N',M')∧R=truns (d+1) (N',M') (t.subs.drop (k+1)))∧(¬ E'=0→R.1=E'))):=by
   by_cases hE0:E=0
   ·subst hE0
    obtain ⟨o1,o2⟩:=hr0.out rfl
    refine (IH.out t.subs[k] u (d+1) (N,M) wr hsz TS TF hBr hWr.out o1 (by omega) (by omega)).mono ?_
    rintro r w' ⟨hv,h⟩
    obtain ⟨N',M',g1,g2⟩:=h.out.2
    rw [List.drop_eq_getElem_cons kx,truns_cons] at o2
    refine ⟨hv,h.out.1,N',M',_,g1,fun e=> ?_,fun e=> ?_⟩
    ·obtain ⟨rfl,rfl⟩:=g2 e
     rw [if_pos e] at o2
     have ok:=truns_ok (SizeOf.sizeOf [t.subs[k]]) [t.subs[k]] (d+1) (N,M) (Nat.le_refl _) o1 (by omega)
     rw [truns_cons,if_pos e,truns_nil] at ok
     exact ⟨ok,o2⟩
    ·rw [if_neg e] at o2
     rw [o2]
   ·refine (rterm_no q N M E (d+1) _ _ _ _ _ _ u wr hWr.out hE0).mono ?_
    rintro r w' ⟨hv,h⟩
    exact ⟨hv,KeepT.of h.out.1,N,M,E,h.out.2,fun e=>absurd e hE0,fun _=>hr1.out hE0⟩
  clear hr0 hr1 TC TS TF IH HX
  generalize t.subs[k].k=k0 at*
  generalize t.subs[k].nm=k1 at*
  generalize t.subs[k].v.k=k2 at*
  generalize t.subs[k].v.n=k3 at*
  generalize t.subs[k].v.d=k4 at*
  generalize t.subs[k].v.s=k5 at*
  have nw:IntKind.i64.wrap (d+1)=d+1:=by rw [IntKind.wrap_i64];omega
  have nw2:wrap64 (d+1)=d+1:=by unfold wrap64;omega
  go_wp2_with fail
  refine cT.out.mono ?_
  rintro r w6 ⟨⟨v6,rfl⟩,h6⟩
  obtain ⟨hk6,N',M',E',g1,g2,g3⟩:=h6.out
  have HP:Hid (WK w6 q N' M' E'∧(E'=0→OkS (N',M')∧R=truns (d+1) (N',M') (t.subs.drop (k+1)))∧(¬ E'=0→R.1=E')):=⟨g1,g2,g3⟩
  have hK6:KeepT q w5 w6:=hKr.trans hk6
  clear g1 g2 g3 h6 cT
  go_wp2
  exact ⟨⟨k+1,N',M',E',by omega,by go_num,hK6,HP.out.1,HP.out.2.1,HP.out.2.2⟩,by simp [intOf];omega⟩
theorem blk7_0 {w:World} {b:Nat} {u v x y z s t:Value} {T:TypeId} {n:Nat×Nat} (h:w.heap[b]? =some (.cells #[u,v,x,y,z,s,t] T n)):w.cell? ⟨b,0,none⟩=some u:=by rw [Lib.cell_of_heap h];rfl
theorem rterm_c345 (w0:World) (q:Nat) (hq:w0.heap.size≤q) (m:Nat) (ih:∀ (t:Tm) (V:Value) (d:Int) (s:Int×Int) (w:World),SizeOf.sizeOf t≤m→TmsAt w0 V t.subs→t.v.Fits→Below w0.heap.size w0 w→WK w q s.1 s.2 0→OkS s→0≤d→d≤25→
  Calls Tryz.prog 66 #[.pointer (some ⟨q,0,none⟩),.agg #[.int .i64 t.k,.string t.nm,.int .i64 t.v.k,.int .i64 t.v.n,.int .i64 t.v.d,.string t.v.s,V],.int .i64 d] w fun r w'=>(∃ v,r=.returned v)∧Hid (KeepT q w w'∧WQ w' q (trun d s t))) (t:Tm) (V:Value) (d:Int) (s:Int×Int) (w:World) (hm:SizeOf.sizeOf t≤m+1) (hV:TmsAt w0 V t.subs) (hF:t.v.Fits) (hw:Below w0.heap.size w0 w) (hK:WK w q s.1 s.2 0) (hs:OkS s) (hd0:0≤d) (hd1:d≤25) (h7:t.k=3∨t.k=4∨t.k=5):
  Calls Tryz.prog 66 #[.pointer (some ⟨q,0,none⟩),.agg #[.int .i64 t.k,.string t.nm,.int .i64 t.v.k,.int .i64 t.v.n,.int .i64 t.v.d,.string t.v.s,V],.int .i64 d] w fun r w'=>(∃ v,r=.returned v)∧Hid (KeepT q w w'∧WQ w' q (trun d s t)):=by
 obtain ⟨p,c,rfl,hl,hc,HX0⟩:=hV.form
 have HX:Hid (∀ i (hi:i<t.subs.length),∃ b off u,p=some ⟨b,off,none⟩∧b<w0.heap.size∧TmC w0 b (off+i*7) t.subs[i] u∧TmsAt w0 u t.subs[i].subs∧t.subs[i].v.Fits):=HX0
 have IH:Hid (_):=ih
 have HS:Hid (OkS s):=hs
 have HW:Hid (WK w q s.1 s.2 0):=hK
 have hqw:q<w.heap.size:=hK.lt
 have HM:Hid (SizeOf.sizeOf t≤m+1):=hm
 have hD:=doc_tmE t
 have cN:Hid (∀ W:World,Calls Tryz.prog 94 #[.string t.nm] W fun e w'=>e=.returned (.bool (nameB t.nm))∧Below W.heap.size W w'):=fun W=>rname_any t.nm W
 have cC:Hid (∀ W:World,Calls Tryz.prog 98 #[.agg #[.int .i64 t.v.k,.int .i64 t.v.n,.int .i64 t.v.d,.string t.v.s]] W fun e w'=>e=.returned (.int .i64 t.v.may)∧Below W.heap.size W w'):=fun W=>rcheck_any t.v.k t.v.n t.v.d t.v.s W hF.n1 hF.n2 hF.d1 hF.d2
 have cS:Hid (∀ W:World,Calls Tryz.prog 97 #[.agg #[.int .i64 t.v.k,.int .i64 t.v.n,.int .i64 t.v.d,.string t.v.s],.agg #[.int .i64 0,.int .i64 0,.int .i64 0,.string ⟨#[]⟩]] W fun e w'=>e=.returned (.bool (sameB t.v.k t.v.n t.v.d t.v.s 0 0 0 ⟨#[]⟩))∧Below W.heap.size W w'):=fun W=>rsame_any t.v.k t.v.n t.v.d t.v.s 0 0 0 ⟨#[]⟩ W
 have hte:=trun_eq d s t
 have HE:Hid (ndE d s.1=meetE d s):=nd_meet hs
 obtain ⟨R,eR⟩:∃ R:Int×(Int×Int),Hid (trun d s t=R):=⟨_,rfl⟩
 rw [eR.out] at hte ⊢
 have HTE:Hid (_):=hte
 obtain ⟨ts,ets⟩:∃ ts:List Tm,Hid (t.subs=ts):=⟨_,rfl⟩
 obtain ⟨nu,en⟩:∃ n:Nat,Hid (t.subs.length=n):=⟨_,rfl⟩
 rw [en.out] at hl hc hD ⊢
 have HD:Hid (_):=hD
 clear hV HX0 ih hK hs hm hte hD hF
 generalize nameB t.nm=NB at*
 generalize sameB t.v.k t.v.n t.v.d t.v.s 0 0 0 ⟨#[]⟩=SB at*
 generalize t.v.may=MY at*
 generalize t.v.k=vk at*
 generalize t.v.n=vn at*
 generalize t.v.d=vd at*
 generalize t.v.s=vs at*
 generalize t.k=tk at*
 generalize t.nm=nm at*
 have H7:Hid (tk=3∨tk=4∨tk=5):=h7
 clear h7
 go_enter Tryz.func66,Tryz.ntmps66
 go_wp2_with fail
 refine (rnode_any q s.1 s.2 d _ (HW.out.alloc _) ⟨HS.out.1,by have:=HS.out.2.1;omega⟩).mono ?_
 rintro r w1 ⟨rfl,h1⟩
 have hK1:KeepT q w w1:=(KeepT.of ((Below.refl _ _).alloc (Nat.le_refl _) _)).trans h1.out.2.keep
 have W1:Hid (WK w1 q (s.1+1) (if s.2<d then d else s.2) (ndE d s.1)):=h1.out.1
 have hne:w.heap.size≠q:=by omega
 have hz1:w.heap.size<w1.heap.size:=by have:=h1.out.2.size;simp at this;omega
 have B1:Hid (w1.heap[w.heap.size]? =_):=(h1.out.2.block w.heap.size (by simp) hne).trans (heap_allocA w _)
 have e0:w1.cell? ⟨w.heap.size,0,none⟩=some (.int .i64 tk):=by rw [Lib.cell_of_heap B1.out];rfl
 clear h1
 by_cases hE:ndE d s.1=0
 case neg=>
  have hE':(ndE d s.1==0)=false:=by simpa using hE
  rw [hE']
  go_wp2
  refine bodyPost_ret (results_none rfl _ _ _) rfl ?_
  refine ⟨⟨_,rfl⟩,hK1, ?_⟩
  have h:=HTE.out
  rw [← HE.out,if_neg hE] at h
  rw [h]
  exact ⟨_,_,W1.out,fun e=>absurd e hE⟩
 have hE':(ndE d s.1==0)=true:=by simpa using hE
 rw [hE']
 have W1':Hid (WK w1 q (s.1+1) (if s.2<d then d else s.2) 0):=by have h:=W1.out;rwa [hE] at h
 clear W1
 obtain ⟨N1,hN1⟩:∃ N1,Hid (s.1+1=N1):=⟨_,rfl⟩
 obtain ⟨M1,hM1⟩:∃ M1,Hid ((if s.2<d then d else s.2)=M1):=⟨_,rfl⟩
 rw [hN1.out,hM1.out] at W1'
 have hmS:Hid (meetS d s=(N1,M1)):=by
  have e:meetE d s=0:=by rw [← HE.out];exact hE
  unfold meetS
  rw [if_pos e,← hN1.out,← hM1.out,Int.max_def]
  congr 1
  by_cases h:s.2<d
  ·rw [if_pos h,if_pos (by omega)]
  ·rw [if_neg h];split<;>omega
 have HR:Hid (R=if tmE t=0 then truns (d+1) (N1,M1) t.subs else (tmE t,(N1,M1))):=by
  have h:=HTE.out
  rw [← HE.out,if_pos hE,hmS.out] at h
  exact h
 have hd24:d≤24:=meetE_le (s:=s) (by rw [← HE.out];exact hE)
 have HOk:Hid (OkS (N1,M1)):=by rw [← hmS.out];exact meetS_ok HS.out hd0
 clear HTE HE hE hE' hN1 hM1 hmS
 obtain ⟨TE,hTE⟩:∃ TE,Hid (tmE t=TE):=⟨_,rfl⟩
 rw [hTE.out] at HR HD
 clear hTE e0
 have HNo:Hid (¬ TE=0→∀ W:World,WK W q N1 M1 TE→WQ W q R):=by
  intro h W hW
  have hr:=HR.out
  rw [if_neg h] at hr
  rw [hr]
  exact ⟨_,_,hW,fun e=>absurd e h⟩
 have h7:=H7.out
 rcases h7 with h7 | h7 | h7
 all_goals
  subst h7
  have e0:=blk7_0 B1.out
  go_wp2_with fail
  refine (rwrong_any q N1 M1 0 20 _ w1 W1'.out).mono ?_
  rintro r w2 ⟨⟨v2,rfl⟩,h2⟩
  have W2:Hid (WK w2 q N1 M1 0):=by have a:=h2.out.1;first | exact a | (simp [wrE,h7] at a;exact a)
  have B2:Hid (_):=h2.out.2.heap B1.out hne
  have hK2:KeepT q w w2:=hK1.trans h2.out.2.keep
  have hz2:w.heap.size<w2.heap.size:=lt_heap B2.out
  clear h2 e0
  have e0:=blk7_0 B2.out
  have e1:w2.cell? ⟨w.heap.size,1,none⟩=some (.string nm):=by rw [Lib.cell_of_heap B2.out];rfl
  go_wp2_with fail
  refine (cN.out _).mono ?_
  rintro r w3 ⟨rfl,hb3⟩
  have W3:Hid (WK w3 q N1 M1 0):=W2.out.below hb3
  have B3:Hid (_):=blkB B2.out hb3
  have hK3:KeepT q w w3:=hK2.trans (KeepT.of hb3)
  clear hb3 e0 e1
  have e2:w3.cell? ⟨w.heap.size,2,none⟩=some (.int .i64 vk):=by rw [Lib.cell_of_heap B3.out];rfl
  have e3:w3.cell? ⟨w.heap.size,3,none⟩=some (.int .i64 vn):=by rw [Lib.cell_of_heap B3.out];rfl
  have e4:w3.cell? ⟨w.heap.size,4,none⟩=some (.int .i64 vd):=by rw [Lib.cell_of_heap B3.out];rfl
  have e5:w3.cell? ⟨w.heap.size,5,none⟩=some (.string vs):=by rw [Lib.cell_of_heap B3.out];rfl
  go_wp2_with fail
  refine (cS.out _).mono ?_
  rintro r w4 ⟨rfl,hb4⟩
  have W4:Hid (WK w4 q N1 M1 0):=W3.out.below hb4
  have B4:Hid (_):=blkB B3.out hb4
  have hK4:KeepT q w w4:=hK3.trans (KeepT.of hb4)
  clear hb4 e2 e3 e4 e5
  have e0:=blk7_0 B4.out
  have e1:w4.cell? ⟨w.heap.size,1,none⟩=some (.string nm):=by rw [Lib.cell_of_heap B4.out];rfl
  have e6:w4.cell? ⟨w.heap.size,6,none⟩=some (.slice p nu c):=by rw [Lib.cell_of_heap B4.out];rfl
  have hxi:((nu:Int)=2)=(nu=2):=by apply propext;omega
  cases SB<;>by_cases hn:nm.toList=[]<;>by_cases hx:nu=2
  all_goals
   go_wp2_with fail
   refine (rwrong_any q N1 M1 _ 1 _ w4 W4.out).mono ?_
   rintro r w5 ⟨⟨v5,rfl⟩,h5⟩
   have W5:Hid (WK w5 q N1 M1 TE):=by
    have a:=h5.out.1
    have b:=HD.out
    simp [wrE,hxi,hx,hn] at a b
    first | (subst b;exact a) | (rw [← b];exact a)
   have hK5:KeepT q w w5:=hK4.trans h5.out.2.keep
   have B5:Hid (_):=h5.out.2.heap B4.out hne
   have y2:w5.cell? ⟨q,2,none⟩=some (.int .i64 TE):=W5.out.e
   have f0:=blk7_0 B5.out
   have f6:w5.cell? ⟨w.heap.size,6,none⟩=some (.slice p nu c):=by rw [Lib.cell_of_heap B5.out];rfl
   clear h5 e0 e1 e6
   first
   | have tn:¬ TE=0:=by have b:=HD.out;simp [wrE,hx,hn] at b;omega
     have tn':(TE==0)=false:=by simpa using tn
     have tn'':(TE != 0)=true:=by simpa using tn
     go_wp2
     refine bodyPost_ret (results_none rfl _ _ _) rfl ?_
     exact ⟨⟨_,rfl⟩,hK5,HNo.out tn _ W5.out⟩
   | have tz:TE=0:=by have b:=HD.out;simp [wrE,hx,hn] at b;omega
     subst tz
     have HL:Hid (R=truns (d+1) (N1,M1) t.subs):=by have h:=HR.out;rw [if_pos rfl] at h;exact h
     clear HD HR HNo cN cC cS hx
     go_wp2
     go_loopw [11] (fun v wr=>∃ (k:Nat) (N M E:Int),k≤nu∧v=.int .i64 k∧KeepT q w5 wr∧Hid (WK wr q N M E)∧Hid (E=0→OkS (N,M)∧R=truns (d+1) (N,M) (t.subs.drop k))∧Hid (¬ E=0→R.1=E)) (fun v _=>nu - (intOf v).toNat)
     case atStart=>exact ⟨0,N1,M1,0,Nat.zero_le _,rfl,KeepT.refl _ _,W5,fun _=>⟨HOk.out,by rw [List.drop_zero];exact HL.out⟩,fun h=>absurd rfl h⟩
     case round=>
      obtain ⟨k,N,M,E,hk,rfl,hKr,hWr,hr0,hr1⟩:=hrel
      have Br:Hid (_):=(hKr.block w.heap.size (lt_heap B5.out) hne).trans B5.out
      have r6:wr.cell? ⟨w.heap.size,6,none⟩=some (.slice p nu c):=by rw [Lib.cell_of_heap Br.out];rfl
      by_cases hlt:k<nu
      case neg=>
       have c2:¬ (k:Int)<nu:=by omega
       go_wp2
       go_end0
       refine ⟨⟨_,rfl⟩,hK5.trans hKr, ?_⟩
       by_cases hE0:E=0
       ·have h:=(hr0.out hE0).2
        rw [List.drop_eq_nil_of_le (by have:=en.out;omega),truns_nil] at h
        rw [h]
        subst hE0
        exact ⟨N,M,hWr.out,fun _=>⟨rfl,rfl⟩⟩
       ·have h:=hr1.out hE0
        exact ⟨N,M,by rw [h];exact hWr.out,fun e=>absurd (h.symm.trans e) hE0⟩
      have hlt':(k:Int)<nu:=by omega
      have kx:k<t.subs.length:=by have:=en.out;omega
      obtain ⟨b,off,u,rfl,hb,TC,TS,TF⟩:=HX.out k kx
      have hBr:Below w0.heap.size w0 wr:=hw.trans ((hK5.trans hKr).below (B:=w0.heap.size) hq (Nat.le_of_lt hqw))
      obtain ⟨a0,a1,a2,a3,a4,a5,a6⟩:=TC.below hBr hb
      have hsz:SizeOf.sizeOf t.subs[k]≤m:=by
       have h1:=mem_lt k kx
       have h2:=t.subs_lt
       have h3:=HM.out
       unfold Hid at h3
       omega
      have cT:Hid (Calls Tryz.prog 66 #[.pointer (some ⟨q,0,none⟩),.agg #[.int .i64 t.subs[k].k,.string t.subs[k].nm,.int .i64 t.subs[k].v.k,.int .i64 t.subs[k].v.n,.int .i64 t.subs[k].v.d,.string t.subs[k].v.s,u],.int .i64 (d+1)] wr fun r w'=>(∃ v,r=.returned v)∧Hid (KeepT q wr w'∧∃ N' M' E',WK w' q N' M' E'∧(E'=0→OkS (N',M')∧R=truns (d+1) (N',M') (t.subs.drop (k+1)))∧(¬ E'=0→R.1=E'))):=by
       by_cases hE0:E=0
       ·subst hE0
        obtain ⟨o1,o2⟩:=hr0.out rfl
        refine (IH.out t.subs[k] u (d+1) (N,M) wr hsz TS TF hBr hWr.out o1 (by omega) (by omega)).mono ?_
        rintro r w' ⟨hv,h⟩
        obtain ⟨N',M',g1,g2⟩:=h.out.2
        rw [List.drop_eq_getElem_cons kx,truns_cons] at o2
        refine ⟨hv,h.out.1,N',M',_,g1,fun e=> ?_,fun e=> ?_⟩
        ·obtain ⟨rfl,rfl⟩:=g2 e
         rw [if_pos e] at o2
         have ok:=truns_ok (SizeOf.sizeOf [t.subs[k]]) [t.subs[k]] (d+1) (N,M) (Nat.le_refl _) o1 (by omega)
         rw [truns_cons,if_pos e,truns_nil] at ok
         exact ⟨ok,o2⟩
        ·rw [if_neg e] at o2
         rw [o2]
       ·refine (rterm_no q N M E (d+1) _ _ _ _ _ _ u wr hWr.out hE0).mono ?_
        rintro r w' ⟨hv,h⟩
        exact ⟨hv,KeepT.of h.out.1,N,M,E,h.out.2,fun e=>absurd e hE0,fun _=>hr1.out hE0⟩
      clear hr0 hr1 TC TS TF IH HX
      generalize t.subs[k].k=k0 at*
      generalize t.subs[k].nm=k1 at*
      generalize t.subs[k].v.k=k2 at*
      generalize t.subs[k].v.n=k3 at*
      generalize t.subs[k].v.d=k4 at*
      generalize t.subs[k].v.s=k5 at*
      have nw:IntKind.i64.wrap (d+1)=d+1:=by rw [IntKind.wrap_i64];omega
      have nw2:wrap64 (d+1)=d+1:=by unfold wrap64;omega
      go_wp2_with fail
      refine cT.out.mono ?_
      rintro r w6 ⟨⟨v6,rfl⟩,h6⟩
      obtain ⟨hk6,N',M',E',g1,g2,g3⟩:=h6.out
      have HP:Hid (WK w6 q N' M' E'∧(E'=0→OkS (N',M')∧R=truns (d+1) (N',M') (t.subs.drop (k+1)))∧(¬ E'=0→R.1=E')):=⟨g1,g2,g3⟩
      have hK6:KeepT q w5 w6:=hKr.trans hk6
      clear g1 g2 g3 h6 cT
      go_wp2
      exact ⟨⟨k+1,N',M',E',by omega,by go_num,hK6,HP.out.1,HP.out.2.1,HP.out.2.2⟩,by simp [intOf];omega⟩
theorem wkterm_any (w0:World) (q:Nat) (hq:w0.heap.size≤q):∀ (m:Nat) (t:Tm) (V:Value) (d:Int) (s:Int×Int) (w:World),SizeOf.sizeOf t≤m→TmsAt w0 V t.subs→t.v.Fits→Below w0.heap.size w0 w→WK w q s.1 s.2 0→OkS s→0≤d→d≤25→
  Calls Tryz.prog 66 #[.pointer (some ⟨q,0,none⟩),.agg #[.int .i64 t.k,.string t.nm,.int .i64 t.v.k,.int .i64 t.v.n,.int .i64 t.v.d,.string t.v.s,V],.int .i64 d] w fun r w'=>(∃ v,r=.returned v)∧Hid (KeepT q w w'∧WQ w' q (trun d s t)):=by
 intro m
 induction m with
 | zero=>intro t V d s w hm;cases t;simp at hm
 | succ m ih=>
  intro t V d s w hm hV hF hw hK hs hd0 hd1
  have h7:t.k<1∨5<t.k∨t.k=1∨t.k=2∨(t.k=3∨t.k=4∨t.k=5):=by omega
  rcases h7 with h7 | h7 | h7 | h7 | h7
  ·exact rterm_clo w0 q hq m ih t V d s w hm hV hF hw hK hs hd0 hd1 h7
  ·exact rterm_chi w0 q hq m ih t V d s w hm hV hF hw hK hs hd0 hd1 h7
  ·exact rterm_c1 w0 q hq m ih t V d s w hm hV hF hw hK hs hd0 hd1 h7
  ·exact rterm_c2 w0 q hq m ih t V d s w hm hV hF hw hK hs hd0 hd1 h7
  ·exact rterm_c345 w0 q hq m ih t V d s w hm hV hF hw hK hs hd0 hd1 h7
theorem trun_okS (d:Int) (s:Int×Int) (t:Tm) (hs:OkS s) (hd:0≤d):OkS (trun d s t).2:=by
 have ok:=truns_ok (SizeOf.sizeOf [t]) [t] d s (Nat.le_refl _) hs hd
 rw [truns_cons] at ok
 by_cases h:(trun d s t).1=0
 ·rw [if_pos h,truns_nil] at ok;exact ok
 ·rw [if_neg h] at ok;exact ok
theorem rterm_walks (w0:World) (q:Nat) (hq:w0.heap.size≤q) (t:Tm) (V:Value) (hV:TmsAt w0 V t.subs) (hF:t.v.Fits) (d:Int) (hd0:0≤d) (hd1:d≤25):
  Walks w0 q 66 (.agg #[.int .i64 t.k,.string t.nm,.int .i64 t.v.k,.int .i64 t.v.n,.int .i64 t.v.d,.string t.v.s,V]) d (fun s=>trun d s t):=by
 intro W R F hW hS
 obtain ⟨N,M,E,h,h1,h2⟩:=hS
 by_cases hE:E=0
 ·subst hE
  obtain ⟨ho,hR⟩:=h1 rfl
  refine (wkterm_any w0 q hq _ t V d (N,M) W (Nat.le_refl _) hV hF hW h ho hd0 hd1).mono ?_
  rintro r w' ⟨hv,g⟩
  exact ⟨hv,g.out.1,WS.step (w:=w') (G:=fun s=>trun d s t) hR g.out.2 (trun_okS d (N,M) t ho hd0)⟩
 ·refine (rterm_no q N M E d _ _ _ _ _ _ V W h hE).mono ?_
  rintro r w' ⟨hv,g⟩
  exact ⟨hv,KeepT.of g.out.1,N,M,E,g.out.2,fun e=>absurd e hE,h2⟩
theorem rformula_no (q:Nat) (N M E d k op lo hi:Int) (nm:ByteArray) (o:Bool) (uv ut us ur:Value) (w:World) (h:WK w q N M E) (hE:¬ E=0):
  Calls Tryz.prog 37 #[.pointer (some ⟨q,0,none⟩),.agg #[.int .i64 k,.string nm,.int .i64 op,uv,ut,.int .i64 lo,.int .i64 hi,.bool o,us,ur],.int .i64 d] w fun r w'=>(∃ v,r=.returned v)∧Hid (Below w.heap.size w w'∧WK w' q N M E):=by
 have H:Hid (WK w q N M E):=h
 clear h
 go_enter Tryz.func37,Tryz.ntmps37
 go_wp2_with fail
 refine (rnode_no q N M E d _ (H.out.alloc _) hE).mono ?_
 rintro r w1 ⟨rfl,rfl⟩
 go_wp2
 refine bodyPost_ret (results_none rfl _ _ _) rfl ?_
 exact ⟨⟨_,rfl⟩,by go_grown,H.out.alloc _⟩
theorem rregex_no (q:Nat) (N M E d k:Int) (ut us:Value) (w:World) (h:WK w q N M E) (hE:¬ E=0):
  Calls Tryz.prog 67 #[.pointer (some ⟨q,0,none⟩),.agg #[.int .i64 k,ut,us],.int .i64 d] w fun r w'=>(∃ v,r=.returned v)∧Hid (Below w.heap.size w w'∧WK w' q N M E):=by
 have H:Hid (WK w q N M E):=h
 clear h
 go_enter Tryz.func67,Tryz.ntmps67
 go_wp2_with fail
 refine (rnode_no q N M E d _ (H.out.alloc _) hE).mono ?_
 rintro r w1 ⟨rfl,rfl⟩
 go_wp2
 refine bodyPost_ret (results_none rfl _ _ _) rfl ?_
 exact ⟨⟨_,rfl⟩,by go_grown,H.out.alloc _⟩
theorem truns_and (d:Int) (s:Int×Int) (t:Tm) (l:List Tm) (K:Int×Int→Int×(Int×Int)):andT (truns d s (t::l)) K=andT (trun d s t) fun s1=>andT (truns d s1 l) K:=by
 rw [truns_cons]
 exact andT_assoc (trun d s t) (fun s1=>truns d s1 l) K
theorem rruns_and (d:Int) (s:Int×Int) (t:Rx) (l:List Rx) (K:Int×Int→Int×(Int×Int)):andT (rruns d s (t::l)) K=andT (rrun d s t) fun s1=>andT (rruns d s1 l) K:=by
 rw [rruns_cons,andT_assoc]
theorem fruns_and (d:Int) (s:Int×Int) (t:Fm) (l:List Fm) (K:Int×Int→Int×(Int×Int)):andT (fruns d s (t::l)) K=andT (frun d s t) fun s1=>andT (fruns d s1 l) K:=by
 rw [fruns_cons,andT_assoc]
theorem rformula_all (w0:World) (q:Nat) (hq:w0.heap.size≤q) (f:Fm) (uv ut us ur:Value) (hQ:QAt w0 (f,⟨uv,ut,us,ur⟩)) (d:Int) (hd0:0≤d) (hd1:d≤25)
  (IT:d≤24→∀ (i:Nat) (hi:i<f.terms.length) (u:Value),TmsAt w0 u f.terms[i].subs→f.terms[i].v.Fits→Walks w0 q 66 (.agg #[.int .i64 f.terms[i].k,.string f.terms[i].nm,.int .i64 f.terms[i].v.k,.int .i64 f.terms[i].v.n,.int .i64 f.terms[i].v.d,.string f.terms[i].v.s,u]) (d+1) (fun s=>trun (d+1) s f.terms[i]))
  (IR:d≤24→∀ (i:Nat) (hi:i<f.rgx.length) (u1 u2:Value),FmsAt w0 u1 f.rgx[i].test→RxsAt w0 u2 f.rgx[i].subs→Walks w0 q 67 (.agg #[.int .i64 f.rgx[i].k,u1,u2]) (d+1) (fun s=>rrun (d+1) s f.rgx[i]))
  (IF:d≤24→∀ (i:Nat) (hi:i<f.subs.length) (y:FQ),QAt w0 (f.subs[i],y)→Walks w0 q 37 (.agg #[.int .i64 f.subs[i].k,.string f.subs[i].nm,.int .i64 f.subs[i].op,y.v,y.t,.int .i64 f.subs[i].lo,.int .i64 f.subs[i].hi,.bool f.subs[i].opn,y.s,y.r]) (d+1) (fun s=>frun (d+1) s f.subs[i]))
  (N M:Int) (w:World) (R:Int×(Int×Int)) (F:Int×Int→Int×(Int×Int)) (hw:Below w0.heap.size w0 w) (hK:WK w q N M 0) (ho:OkS (N,M)) (hR:R=andT (frun d (N,M) f) F):
  Calls Tryz.prog 37 #[.pointer (some ⟨q,0,none⟩),.agg #[.int .i64 f.k,.string f.nm,.int .i64 f.op,uv,ut,.int .i64 f.lo,.int .i64 f.hi,.bool f.opn,us,ur],.int .i64 d] w fun r w'=>(∃ v,r=.returned v)∧Hid (KeepT q w w'∧WS w' q R F):=by
 obtain ⟨hv,ht,hs,hr⟩:=hQ
 dsimp only at hv ht hs hr
 have HV:Hid (NmsAt w0 uv f.vars):=hv
 obtain ⟨pv,cv,rfl,hlv,hcv,HXV0⟩:=hv.form
 have HXV:Hid (_):=HXV0
 obtain ⟨pt,ct,rfl,hlt0,hct,HXT0⟩:=ht.form
 have HXT:Hid (∀ i (hi:i<f.terms.length),∃ b off u,pt=some ⟨b,off,none⟩∧b<w0.heap.size∧TmC w0 b (off+i*7) f.terms[i] u∧TmsAt w0 u f.terms[i].subs∧f.terms[i].v.Fits):=HXT0
 obtain ⟨ps,cs,rfl,hls,hcs,HXF0⟩:=hs.form
 have HXF:Hid (∀ i (hi:i<f.subs.length),∃ b off uv ut us ur,ps=some ⟨b,off,none⟩∧b<w0.heap.size∧FmC w0 b (off+i*10) f.subs[i] uv ut us ur∧NmsAt w0 uv f.subs[i].vars∧TmsAt w0 ut f.subs[i].terms∧FmsAt w0 us f.subs[i].subs∧RxsAt w0 ur f.subs[i].rgx):=HXF0
 obtain ⟨pr,cr,rfl,hlr,hcr,HXR0⟩:=hr.form
 have HXR:Hid (∀ i (hi:i<f.rgx.length),∃ b off ut us,pr=some ⟨b,off,none⟩∧b<w0.heap.size∧RxC w0 b (off+i*3) f.rgx[i] ut us∧FmsAt w0 ut f.rgx[i].test∧RxsAt w0 us f.rgx[i].subs):=HXR0
 have HD:Hid (_):=doc_fmE f hls
 have HW:Hid (WK w q N M 0):=hK
 have HO:Hid (OkS (N,M)):=ho
 have hqw:q<w.heap.size:=hK.lt
 have HR0:Hid (R=andT (meetE d (N,M),meetS d (N,M)) fun s1=>andT (fmE f,s1) fun s1=>andT (truns (d+1) s1 f.terms) fun s2=>andT (rruns (d+1) s2 f.rgx) fun s3=>andT (fruns (d+1) s3 f.subs) F):=by
  have h:=hR
  rw [frun_eq] at h
  simp only [andT_assoc] at h
  exact h
 have cM:Hid (∀ W:World,Calls Tryz.prog 61 #[.agg #[.int .i64 f.k,.string f.nm,.int .i64 f.op,.slice pv f.vars.length cv,.slice pt f.terms.length ct,.int .i64 f.lo,.int .i64 f.hi,.bool f.opn,.slice ps f.subs.length cs,.slice pr f.rgx.length cr]] W fun r w'=>r=.returned (.bool (manyB f.k f.vars.length f.terms.length))∧Below W.heap.size W w'):=fun W=>rmany_any f.k f.op f.lo f.hi f.nm f.opn pv pt ps pr f.vars.length cv f.terms.length ct f.subs.length cs f.rgx.length cr W
 have cF:Hid (∀ W:World,Calls Tryz.prog 62 #[.agg #[.int .i64 f.k,.string f.nm,.int .i64 f.op,.slice pv f.vars.length cv,.slice pt f.terms.length ct,.int .i64 f.lo,.int .i64 f.hi,.bool f.opn,.slice ps f.subs.length cs,.slice pr f.rgx.length cr]] W fun r w'=>r=.returned (.bool (formB (usO f.k) f.nm f.op f.lo f.hi f.opn f.vars.length f.terms.length f.subs.length f.rgx.length))∧Below W.heap.size W w'):=fun W=>rform_any f.k f.op f.lo f.hi f.nm f.opn pv pt ps pr f.vars.length cv f.terms.length ct f.subs.length cs f.rgx.length cr W
 have cN:Hid (∀ W:World,Below w0.heap.size w0 W→Calls Tryz.prog 63 #[.agg #[.int .i64 f.k,.string f.nm,.int .i64 f.op,.slice pv f.vars.length cv,.slice pt f.terms.length ct,.int .i64 f.lo,.int .i64 f.hi,.bool f.opn,.slice ps f.subs.length cs,.slice pr f.rgx.length cr]] W fun r w'=>r=.returned (.bool (namedB (usO f.k) f.nm f.vars f.lo f.hi f.opn))∧Below W.heap.size W w'):=fun W hW=>rnamed_any f.k f.op f.lo f.hi f.nm f.opn f.vars pv pt ps pr f.vars.length cv f.terms.length ct f.subs.length cs f.rgx.length cr W (HV.out.below hW)
 have cW:Hid (∀ W:World,Below w0.heap.size w0 W→Calls Tryz.prog 64 #[.slice pv f.vars.length cv] W fun r w'=>r=.returned (.bool (repN [] f.vars))∧Below W.heap.size W w'):=fun W hW=>rtwice_any _ f.vars W (HV.out.below hW)
 clear hv ht hs hr HXV0 HXT0 HXF0 HXR0 hK ho hR
 have HE:Hid (ndE d N=meetE d (N,M)):=nd_meet (s:=(N,M)) HO.out
 have CT0:Hid (_):=IT
 have CR0:Hid (_):=IR
 have CF0:Hid (_):=IF
 clear IT IR IF
 obtain ⟨FE,hFE⟩:∃ FE,Hid (fmE f=FE):=⟨_,rfl⟩
 rw [hFE.out] at HR0 HD
 clear hFE
 obtain ⟨nv,env⟩:∃ n:Nat,Hid (f.vars.length=n):=⟨_,rfl⟩
 obtain ⟨nt,ent⟩:∃ n:Nat,Hid (f.terms.length=n):=⟨_,rfl⟩
 obtain ⟨ns,ens⟩:∃ n:Nat,Hid (f.subs.length=n):=⟨_,rfl⟩
 obtain ⟨nr,enr⟩:∃ n:Nat,Hid (f.rgx.length=n):=⟨_,rfl⟩
 rw [env.out] at cM cF cN cW hlv hcv HD ⊢
 rw [ent.out] at cM cF cN hlt0 hct HD ⊢
 rw [ens.out] at cM cF cN hls hcs HD ⊢
 rw [enr.out] at cM cF cN hlr hcr HD ⊢
 generalize formB (usO f.k) f.nm f.op f.lo f.hi f.opn nv nt ns nr=FB at*
 generalize namedB (usO f.k) f.nm f.vars f.lo f.hi f.opn=GB at*
 generalize manyB f.k nv nt=MB at*
 generalize repN [] f.vars=RB at*
 generalize hCB:Lib.containsS (f.vars.drop 1) f.nm=CB at*
 have HCB:Hid (Lib.containsS (f.vars.drop 1) f.nm=CB):=hCB
 clear hCB
 generalize f.nm=nm at*
 generalize f.lo=lo at*
 generalize f.hi=hi at*
 generalize f.opn=o at*
 generalize f.op=op at*
 generalize f.k=tk at*
 have hne:w.heap.size≠q:=by omega
 go_enter Tryz.func37,Tryz.ntmps37
 go_wp2_with fail
 refine (rnode_any q N M d _ (HW.out.alloc _) ⟨HO.out.1,by have:=HO.out.2.1;simp at this;omega⟩).mono ?_
 rintro r w1 ⟨rfl,h1⟩
 have hK1:KeepT q w w1:=(KeepT.of ((Below.refl _ _).alloc (Nat.le_refl _) _)).trans h1.out.2.keep
 have W1:Hid (WK w1 q (N+1) (if M<d then d else M) (ndE d N)):=h1.out.1
 have B1:Hid (w1.heap[w.heap.size]? =_):=(h1.out.2.block w.heap.size (by simp) hne).trans (heap_allocA w _)
 clear h1
 by_cases hE:ndE d N=0
 case neg=>
  have hE':(ndE d N==0)=false:=by simpa using hE
  rw [hE']
  go_wp2
  refine bodyPost_ret (results_none rfl _ _ _) rfl ?_
  refine ⟨⟨_,rfl⟩,hK1,_,_,_,W1.out,fun e=>absurd e hE,fun _=> ?_⟩
  have h:=HR0.out
  rw [← HE.out] at h
  rw [h,andT_ne hE]
 have hE':(ndE d N==0)=true:=by simpa using hE
 rw [hE']
 obtain ⟨N1,hN1⟩:∃ N1,Hid (N+1=N1):=⟨_,rfl⟩
 obtain ⟨M1,hM1⟩:∃ M1,Hid ((if M<d then d else M)=M1):=⟨_,rfl⟩
 have W1':Hid (WK w1 q N1 M1 0):=by have h:=W1.out;rw [hE,hN1.out,hM1.out] at h;exact h
 clear W1
 have hmS:Hid (meetS d (N,M)=(N1,M1)):=by
  have e:meetE d (N,M)=0:=by rw [← HE.out];exact hE
  unfold meetS
  rw [if_pos e,← hN1.out,← hM1.out,Int.max_def]
  show (N+1,if M≤d then d else M)=(N+1,if M<d then d else M)
  congr 1
  by_cases h:M<d
  ·rw [if_pos h,if_pos (by omega)]
  ·rw [if_neg h];split<;>omega
 have HR1:Hid (R=andT (FE,(N1,M1)) fun s1=>andT (truns (d+1) s1 f.terms) fun s2=>andT (rruns (d+1) s2 f.rgx) fun s3=>andT (fruns (d+1) s3 f.subs) F):=by
  have h:=HR0.out
  rw [← HE.out,hE,andT_eq,hmS.out] at h
  exact h
 have hd24:d≤24:=meetE_le (s:=(N,M)) (by rw [← HE.out];exact hE)
 have HOk:Hid (OkS (N1,M1)):=by rw [← hmS.out];exact meetS_ok HO.out hd0
 have CT:=CT0.out hd24
 have CR:=CR0.out hd24
 have CF:=CF0.out hd24
 have CT:Hid (_):=CT
 have CR:Hid (_):=CR
 have CF:Hid (_):=CF
 clear HR0 HE hE hE' hN1 hM1 hmS CT0 CR0 CF0
 have HNo:Hid (¬ FE=0→∀ W:World,WK W q N1 M1 FE→WS W q R F):=by
  intro h W hW
  have hr:=HR1.out
  rw [andT_ne h] at hr
  exact ⟨_,_,_,hW,fun e=>absurd e h,fun _=>by rw [hr]⟩
 have e0:w1.cell? ⟨w.heap.size,0,none⟩=some (.int .i64 tk):=by rw [Lib.cell_of_heap B1.out];rfl
 obtain ⟨E1,hE1⟩:∃ E1,Hid (wrE (decide (tk<1∨22<tk)) 20 0=E1):=⟨_,rfl⟩
 go_upto_region 3 with fail
 go_cut [] (fun wx=>Hid (WK wx q N1 M1 E1∧Fr (fun k=>k=q) w1 wx))
 case first=>
  have fin:∀ (wx:World) (is:Bool),Hid (WK wx q N1 M1 (wrE is 20 0)∧Fr (fun k=>k=q) w1 wx)→is=decide (tk<1∨22<tk)→Hid (WK wx q N1 M1 E1∧Fr (fun k=>k=q) w1 wx):=by
   intro wx is h e
   rw [e,hE1.out] at h
   exact h
  by_cases hl:tk<1
  ·go_wp2_with fail
   refine (rwrong_any q N1 M1 0 20 _ w1 W1'.out).mono ?_
   rintro r w2 ⟨⟨v2,rfl⟩,h2⟩
   go_wp2_with fail
   go_meet
   exact fin _ _ h2 (by simp [hl])
  ·by_cases hg:22<tk
   ·go_wp2_with fail
    refine (rwrong_any q N1 M1 0 20 _ w1 W1'.out).mono ?_
    rintro r w2 ⟨⟨v2,rfl⟩,h2⟩
    go_wp2_with fail
    go_meet
    exact fin _ _ h2 (by simp [hg])
   ·go_wp2_with fail
    refine (rwrong_any q N1 M1 0 20 _ w1 W1'.out).mono ?_
    rintro r w2 ⟨⟨v2,rfl⟩,h2⟩
    go_wp2_with fail
    go_meet
    exact fin _ _ h2 (by simp [hl,hg])
 case rest=>
 obtain ⟨w2,ew⟩:∃ W:World,W=wc:=⟨_,rfl⟩
 subst ew
 have W2:Hid (WK w2 q N1 M1 E1):=hcut.out.1
 have B2:Hid (_):=hcut.out.2.heap B1.out hne
 have hK2:KeepT q w w2:=hK1.trans hcut.out.2.keep
 clear hcut e0 B1 hK1 W1'
 obtain ⟨e0,e1,e2,e3,e4,e5,e6,e7,e8,e9⟩:=box10 B2.out
 have hB2:Below w0.heap.size w0 w2:=hw.trans (hK2.below (B:=w0.heap.size) hq (Nat.le_of_lt hqw))
 go_wp2_with fail
 refine (cM.out _).mono ?_
 rintro r w3 ⟨rfl,hb3⟩
 have W3:Hid (WK w3 q N1 M1 E1):=W2.out.below hb3
 have B3:Hid (_):=blkB B2.out hb3
 have hK3:KeepT q w w3:=hK2.trans (KeepT.of hb3)
 clear hb3 e0 e1 e2 e3 e4 e5 e6 e7 e8 e9 hB2 B2 W2 hK2 cM
 obtain ⟨E2,hE2⟩:∃ E,Hid (wrE MB 3 E1=E):=⟨_,rfl⟩
 go_wp2_with fail
 refine (rwrong_any q N1 M1 _ 3 MB w3 W3.out).mono ?_
 rintro r w4 ⟨⟨v4,rfl⟩,h4⟩
 have W4:Hid (WK w4 q N1 M1 E2):=by have a:=h4.out.1;rw [hE2.out] at a;exact a
 have B4:Hid (_):=h4.out.2.heap B3.out hne
 have hK4:KeepT q w w4:=hK3.trans h4.out.2.keep
 have HD2:Hid (wrE (RB || (decide (tk=19) && CB)) 30 (wrE (!(FB && GB)) 1 E2)=FE):=by
  have h:=HD.out
  rw [hE1.out,hE2.out] at h
  exact h
 clear h4 B3 W3 hK3 HD
 obtain ⟨e0,e1,e2,e3,e4,e5,e6,e7,e8,e9⟩:=box10 B4.out
 have hB4:Below w0.heap.size w0 w4:=hw.trans (hK4.below (B:=w0.heap.size) hq (Nat.le_of_lt hqw))
 go_wp2_with fail
 refine (cF.out _).mono ?_
 rintro r w5 ⟨rfl,hb5⟩
 have W5:Hid (WK w5 q N1 M1 E2):=W4.out.below hb5
 have B5:Hid (_):=blkB B4.out hb5
 have hK5:KeepT q w w5:=hK4.trans (KeepT.of hb5)
 clear hb5 e0 e1 e2 e3 e4 e5 e6 e7 e8 e9 hB4 B4 W4 hK4 cF
 obtain ⟨e0,e1,e2,e3,e4,e5,e6,e7,e8,e9⟩:=box10 B5.out
 have hB5:Below w0.heap.size w0 w5:=hw.trans (hK5.below (B:=w0.heap.size) hq (Nat.le_of_lt hqw))
 go_wp2_with fail
 refine (cN.out _ hB5).mono ?_
 rintro r w6 ⟨rfl,hb6⟩
 have W6:Hid (WK w6 q N1 M1 E2):=W5.out.below hb6
 have B6:Hid (_):=blkB B5.out hb6
 have hK6:KeepT q w w6:=hK5.trans (KeepT.of hb6)
 clear hb6 e0 e1 e2 e3 e4 e5 e6 e7 e8 e9 hB5 B5 W5 hK5 cN
 obtain ⟨E3,hE3⟩:∃ E,Hid (wrE (!(FB && GB)) 1 E2=E):=⟨_,rfl⟩
 rw [hE3.out] at HD2
 go_upto_region 8 with fail
 go_cut [] (fun wx=>Hid (WK wx q N1 M1 E3∧Fr (fun k=>k=q) w6 wx))
 case first=>
  have fin:∀ (wx:World) (is:Bool),Hid (WK wx q N1 M1 (wrE is 1 E2)∧Fr (fun k=>k=q) w6 wx)→is= !(FB && GB)→Hid (WK wx q N1 M1 E3∧Fr (fun k=>k=q) w6 wx):=by
   intro wx is h e
   rw [e,hE3.out] at h
   exact h
  cases FB with
  | false=>
   go_wp2_with fail
   refine (rwrong_any q N1 M1 _ 1 _ w6 W6.out).mono ?_
   rintro r w7 ⟨⟨v7,rfl⟩,h7⟩
   go_wp2_with fail
   go_meet
   exact fin _ _ h7 rfl
  | true=>
   go_wp2_with fail
   refine (rwrong_any q N1 M1 _ 1 _ w6 W6.out).mono ?_
   rintro r w7 ⟨⟨v7,rfl⟩,h7⟩
   go_wp2_with fail
   go_meet
   exact fin _ _ h7 rfl
 case rest=>
 obtain ⟨w7,ew⟩:∃ W:World,W=wc:=⟨_,rfl⟩
 subst ew
 have W7:Hid (WK w7 q N1 M1 E3):=hcut.out.1
 have B7:Hid (_):=hcut.out.2.heap B6.out hne
 have hK7:KeepT q w w7:=hK6.trans hcut.out.2.keep
 clear hcut B6 W6 hK6 hE3
 have e3:w7.cell? ⟨w.heap.size,3,none⟩=some (.slice pv nv cv):=by rw [Lib.cell_of_heap B7.out];rfl
 have hB7:Below w0.heap.size w0 w7:=hw.trans (hK7.below (B:=w0.heap.size) hq (Nat.le_of_lt hqw))
 go_wp2_with fail
 refine (cW.out _ hB7).mono ?_
 rintro r w8 ⟨rfl,hb8⟩
 have W8:Hid (WK w8 q N1 M1 E3):=W7.out.below hb8
 have B8:Hid (_):=blkB B7.out hb8
 have hK8:KeepT q w w8:=hK7.trans (KeepT.of hb8)
 clear hb8 e3 hB7 B7 W7 hK7 cW
 have e0:w8.cell? ⟨w.heap.size,0,none⟩=some (.int .i64 tk):=by rw [Lib.cell_of_heap B8.out];rfl
 have e3:w8.cell? ⟨w.heap.size,3,none⟩=some (.slice pv nv cv):=by rw [Lib.cell_of_heap B8.out];rfl
 have e1:w8.cell? ⟨w.heap.size,1,none⟩=some (.string nm):=by rw [Lib.cell_of_heap B8.out];rfl
 go_upto_region 11 with fail
 go_cut [58] (fun g wx=>∃ G:Bool,g=.bool G∧w8=wx∧Hid (G=decide (tk=19∧0<nv)))
 case first=>
  clear HD2 HR1 HNo HOk HXF HXR HXT CR CF CT
  by_cases hk:tk=19
  case neg=>
   have k19:(tk==19)=false:=by simpa using hk
   go_wp2_with fail
   go_meet
   exact ⟨false,rfl,rfl,(decide_eq_false (fun h=>hk h.1)).symm⟩
  case pos=>
   subst hk
   go_wp2_with fail
   go_meet
   exact ⟨decide (0<nv),by simp,rfl,by show _=_;simp⟩
 case rest=>
 obtain ⟨G,rfl,rfl,hG⟩:=hcut
 go_upto_if 58 with fail
 go_cut [11] (fun g wx=>g=.bool (decide (tk=19) && CB)∧∃ m:Nat,wx=w8.drewN m)
 case first=>
  clear HD2 HR1 HNo HOk HXF HXR HXT CR CF CT
  cases G with
  | false=>
   have e:(decide (tk=19) && CB)=false:=by
    have h:=of_decide_eq_false hG.out.symm
    by_cases hk:tk=19
    ·rw [← HCB.out,List.drop_eq_nil_of_le (by have:=env.out;omega),contS_nil];simp
    ·simp [hk]
   go_wp2_with fail
   go_meet
   exact ⟨by rw [e],0,rfl⟩
  | true=>
    have h:=of_decide_eq_true hG.out.symm
    have hk:=h.1
    have hn0:¬ nv=0:=by omega
    have c0:(0:Int)<nv:=by omega
    clear h hG
    subst hk
    have c1:(1:Int)≤nv:=by omega
    obtain ⟨b,off,rfl,hb, -⟩:=HXV.out 0 (by have:=env.out;omega)
    have cK:Hid (∀ (W:World) (p:Option Addr),Below w0.heap.size w0 W→(1<nv→p=some ⟨b,off+1,none⟩)→Calls Tryz.prog 65 #[.slice p (nv - 1) (cv - 1),.string nm] W fun e w'=>e=.returned (.bool CB)∧w'=W):=fun W p hW hp=>by
     have hv:=HV.out
     rw [env.out] at hv
     have h:=NmsAt.drop1 hv p (fun h=>hp (by have:=env.out;omega)) (by have:=env.out;omega)
     rw [env.out] at h
     have h2:=rhasN_any _ _ nm W (h.below hW)
     rw [HCB.out] at h2
     exact h2
    have hB8:Below w0.heap.size w0 w8:=hw.trans (hK8.below (B:=w0.heap.size) hq (Nat.le_of_lt hqw))
    have KEY:(cv=1∧Hid (∀ m:Nat,Calls Tryz.prog 65 #[.slice (some ⟨b,off,none⟩) 0 0,.string nm] (w8.drewN m) fun e w'=>e=.returned (.bool CB)∧w'=w8.drewN m))∨(¬ cv=1∧Hid (∀ m:Nat,Calls Tryz.prog 65 #[.slice (some ⟨b,off+1,none⟩) (nv - 1) (cv - 1),.string nm] (w8.drewN m) fun e w'=>e=.returned (.bool CB)∧w'=w8.drewN m)):=by
     by_cases hc1:cv=1
     ·refine Or.inl ⟨hc1,fun m=> ?_⟩
      have h:=cK.out (w8.drewN m) (some ⟨b,off,none⟩) (bdrewA m hB8) (by omega)
      rwa [show nv - 1=0 by omega,show cv - 1=0 by omega] at h
     ·exact Or.inr ⟨hc1,fun m=>cK.out (w8.drewN m) (some ⟨b,off+1,none⟩) (bdrewA m hB8) (fun _=>rfl)⟩
    rcases KEY with ⟨hc1,cK1⟩ | ⟨hc1,cK1⟩
    all_goals
     try subst hc1
     go_upto_region 12 with fail
     go_quiet (first | (go_at_call 65;exact Calls.quiet_of_same (cK1.out _)))
     go_wp2_with fail
     go_meet
     exact ⟨by simp,_,rfl⟩
 case rest=>
 obtain ⟨rfl,m,rfl⟩:=hcut
 have W8:Hid (WK (w8.drewN m) q N1 M1 E3):=W8.out
 have B8:Hid ((w8.drewN m).heap[w.heap.size]? =_):=B8.out
 have hK8:KeepT q w (w8.drewN m):=⟨hK8.os,hK8.tape,hK8.output,hK8.size,hK8.block⟩
 clear e0 e1 e3
 generalize w8.drewN m=w8' at*
 generalize (decide (tk=19) && CB)=GR at*
 go_upto_region 13 with fail
 go_cut [] (fun wx=>Hid (WK wx q N1 M1 FE∧Fr (fun k=>k=q) w8' wx))
 case first=>
  have fin:∀ (wx:World) (is:Bool),Hid (WK wx q N1 M1 (wrE is 30 E3)∧Fr (fun k=>k=q) w8' wx)→is=(RB || GR)→Hid (WK wx q N1 M1 FE∧Fr (fun k=>k=q) w8' wx):=by
   intro wx is h e
   rw [e,HD2.out] at h
   exact h
  cases RB with
  | true=>
   go_wp2_with fail
   refine (rwrong_any q N1 M1 _ 30 _ _ W8.out).mono ?_
   rintro r w9 ⟨⟨v9,rfl⟩,h9⟩
   go_wp2_with fail
   go_meet
   exact fin _ _ h9 rfl
  | false=>
   go_wp2_with fail
   refine (rwrong_any q N1 M1 _ 30 _ _ W8.out).mono ?_
   rintro r w9 ⟨⟨v9,rfl⟩,h9⟩
   go_wp2_with fail
   go_meet
   exact fin _ _ h9 rfl
 case rest=>
 obtain ⟨w9,ew⟩:∃ W:World,W=wc:=⟨_,rfl⟩
 subst ew
 have W9:Hid (WK w9 q N1 M1 FE):=hcut.out.1
 have B9:Hid (_):=hcut.out.2.heap B8.out hne
 have hK9:KeepT q w w9:=hK8.trans hcut.out.2.keep
 clear hcut W8 B8 hK8 HD2
 have y2:w9.cell? ⟨q,2,none⟩=some (.int .i64 FE):=W9.out.e
 by_cases hz:FE=0
 case neg=>
  have tn':(FE==0)=false:=by simpa using hz
  have tn'':(FE != 0)=true:=by simpa using hz
  go_wp2
  refine bodyPost_ret (results_none rfl _ _ _) rfl ?_
  exact ⟨⟨_,rfl⟩,hK9,HNo.out hz _ W9.out⟩
 subst hz
 have S9:Hid (WS w9 q R (fun s1=>andT (truns (d+1) s1 f.terms) fun s2=>andT (rruns (d+1) s2 f.rgx) fun s3=>andT (fruns (d+1) s3 f.subs) F)):=WS.of W9.out HOk.out (by have h:=HR1.out;rw [andT_eq] at h;exact h)
 clear HR1 HNo
 go_wp2
 go_loopw [12] (fun v wr=>∃ k:Nat,k≤nt∧v=.int .i64 k∧KeepT q w9 wr∧Hid (WS wr q R (fun s=>andT (truns (d+1) s (f.terms.drop k)) (fun s2=>andT (rruns (d+1) s2 f.rgx) fun s3=>andT (fruns (d+1) s3 f.subs) F)))) (fun v _=>nt - (intOf v).toNat)
 case atStart=>exact ⟨0,Nat.zero_le _,rfl,KeepT.refl _ _,by rw [List.drop_zero];exact S9⟩
 case round=>
  obtain ⟨k,hk,rfl,hKr,hSr⟩:=hrel
  have Br:Hid (_):=(hKr.block w.heap.size (lt_heap B9.out) hne).trans B9.out
  have r6:wr.cell? ⟨w.heap.size,4,none⟩=some (.slice pt nt ct):=by rw [Lib.cell_of_heap Br.out];rfl
  by_cases hlt:k<nt
  case neg=>
   have c2:¬ (k:Int)<nt:=by omega
   obtain ⟨w10,ew⟩:∃ W:World,W=wr:=⟨_,rfl⟩
   subst ew
   have S10:Hid (WS w10 q R (fun s2=>andT (rruns (d+1) s2 f.rgx) fun s3=>andT (fruns (d+1) s3 f.subs) F)):=hSr.out.cast (fun s=>by rw [List.drop_eq_nil_of_le (by have:=ent.out;omega),truns_nil];exact andT_eq)
   have hK10:KeepT q w w10:=hK9.trans hKr
   have B10:Hid (_):=Br.out
   clear hSr hKr Br
   go_wp2
   clear r6 c2 hk hlt
   go_loopw [13] (fun v wr=>∃ k:Nat,k≤nr∧v=.int .i64 k∧KeepT q w10 wr∧Hid (WS wr q R (fun s=>andT (rruns (d+1) s (f.rgx.drop k)) (fun s3=>andT (fruns (d+1) s3 f.subs) F)))) (fun v _=>nr - (intOf v).toNat)
   case atStart=>exact ⟨0,Nat.zero_le _,rfl,KeepT.refl _ _,by rw [List.drop_zero];exact S10⟩
   case round=>
    obtain ⟨k,hk,rfl,hKr,hSr⟩:=hrel
    have Br:Hid (_):=(hKr.block w.heap.size (lt_heap B10.out) hne).trans B10.out
    have r6:wr.cell? ⟨w.heap.size,9,none⟩=some (.slice pr nr cr):=by rw [Lib.cell_of_heap Br.out];rfl
    by_cases hlt:k<nr
    case neg=>
     have c2:¬ (k:Int)<nr:=by omega
     obtain ⟨w11,ew⟩:∃ W:World,W=wr:=⟨_,rfl⟩
     subst ew
     have S11:Hid (WS w11 q R (fun s3=>andT (fruns (d+1) s3 f.subs) F)):=hSr.out.cast (fun s=>by rw [List.drop_eq_nil_of_le (by have:=enr.out;omega),rruns_nil];exact andT_eq)
     have hK11:KeepT q w w11:=hK10.trans hKr
     have B11:Hid (_):=Br.out
     clear hSr hKr Br
     go_wp2
     clear r6 c2 hk hlt
     go_loopw [14] (fun v wr=>∃ k:Nat,k≤ns∧v=.int .i64 k∧KeepT q w11 wr∧Hid (WS wr q R (fun s=>andT (fruns (d+1) s (f.subs.drop k)) F))) (fun v _=>ns - (intOf v).toNat)
     case atStart=>exact ⟨0,Nat.zero_le _,rfl,KeepT.refl _ _,by rw [List.drop_zero];exact S11⟩
     case round=>
      obtain ⟨k,hk,rfl,hKr,hSr⟩:=hrel
      have Br:Hid (_):=(hKr.block w.heap.size (lt_heap B11.out) hne).trans B11.out
      have r6:wr.cell? ⟨w.heap.size,8,none⟩=some (.slice ps ns cs):=by rw [Lib.cell_of_heap Br.out];rfl
      by_cases hlt:k<ns
      case neg=>
       have c2:¬ (k:Int)<ns:=by omega
       have S12:Hid (WS wr q R F):=hSr.out.cast (fun s=>by rw [List.drop_eq_nil_of_le (by have:=ens.out;omega),fruns_nil];exact andT_eq)
       have hK12:KeepT q w wr:=hK11.trans hKr
       go_wp2
       go_end0
       exact ⟨⟨_,rfl⟩,hK12,S12.out⟩
      have hlt':(k:Int)<ns:=by omega
      have kx:k<f.subs.length:=by have:=ens.out;omega
      obtain ⟨b,off,u1,u2,u3,u4,rfl,hb,TC,N1t,N2t,N3t,N4t⟩:=HXF.out k kx
      have hBr:Below w0.heap.size w0 wr:=hw.trans ((hK11.trans hKr).below (B:=w0.heap.size) hq (Nat.le_of_lt hqw))
      obtain ⟨a0,a1,a2,a3,a4,a5,a6,a7,a8,a9⟩:=TC.below hBr hb
      have wk:=CF.out k kx ⟨u1,u2,u3,u4⟩ ⟨N1t,N2t,N3t,N4t⟩
      have cW:=wk wr R (fun s1=>andT (fruns (d+1) s1 (f.subs.drop (k+1))) F) hBr (hSr.out.cast (fun s=>by rw [List.drop_eq_getElem_cons kx,fruns_and]))
      have HcW:Hid (Calls Tryz.prog 37 #[.pointer (some ⟨q,0,none⟩),.agg #[.int .i64 f.subs[k].k,.string f.subs[k].nm,.int .i64 f.subs[k].op,u1,u2,.int .i64 f.subs[k].lo,.int .i64 f.subs[k].hi,.bool f.subs[k].opn,u3,u4],.int .i64 (d+1)] wr fun e9 w'=>(∃ v,e9=.returned v)∧Hid (KeepT q wr w'∧WS w' q R (fun s1=>andT (fruns (d+1) s1 (f.subs.drop (k+1))) F))):=cW
      obtain ⟨-,p1,c1,rfl, -⟩:=N1t
      obtain ⟨p2,c2,rfl, -⟩:=N2t.form
      obtain ⟨p3,c3,rfl, -⟩:=N3t.form
      obtain ⟨p4,c4,rfl, -⟩:=N4t.form
      clear TC hSr wk cW N2t N3t N4t
      generalize f.subs[k].k=X0 at*
      generalize f.subs[k].nm=X1 at*
      generalize f.subs[k].op=X2 at*
      generalize f.subs[k].lo=X3 at*
      generalize f.subs[k].hi=X4 at*
      generalize f.subs[k].opn=X5 at*
      generalize f.subs[k].vars.length=L1 at*
      generalize f.subs[k].terms.length=L2 at*
      generalize f.subs[k].subs.length=L3 at*
      generalize f.subs[k].rgx.length=L4 at*
      have nw:IntKind.i64.wrap (d+1)=d+1:=by rw [IntKind.wrap_i64];omega
      have nw2:wrap64 (d+1)=d+1:=by unfold wrap64;omega
      go_wp2_with fail
      refine HcW.out.mono ?_
      rintro r w6 ⟨⟨v6,rfl⟩,h6⟩
      have hK6:KeepT q w11 w6:=hKr.trans h6.out.1
      have HS6:Hid (_):=h6.out.2
      clear h6 HcW
      go_wp2
      exact ⟨⟨k+1,by omega,by go_num,hK6,HS6.out⟩,by simp [intOf];omega⟩
    have hlt':(k:Int)<nr:=by omega
    have kx:k<f.rgx.length:=by have:=enr.out;omega
    obtain ⟨b,off,u1,u2,rfl,hb,TC,N1t,N2t⟩:=HXR.out k kx
    have hBr:Below w0.heap.size w0 wr:=hw.trans ((hK10.trans hKr).below (B:=w0.heap.size) hq (Nat.le_of_lt hqw))
    obtain ⟨a0,a1,a2⟩:=TC.below hBr hb
    have wk:=CR.out k kx u1 u2 N1t N2t
    have cW:=wk wr R (fun s1=>andT (rruns (d+1) s1 (f.rgx.drop (k+1))) (fun s3=>andT (fruns (d+1) s3 f.subs) F)) hBr (hSr.out.cast (fun s=>by rw [List.drop_eq_getElem_cons kx,rruns_and]))
    have HcW:Hid (Calls Tryz.prog 67 #[.pointer (some ⟨q,0,none⟩),.agg #[.int .i64 f.rgx[k].k,u1,u2],.int .i64 (d+1)] wr fun e9 w'=>(∃ v,e9=.returned v)∧Hid (KeepT q wr w'∧WS w' q R (fun s1=>andT (rruns (d+1) s1 (f.rgx.drop (k+1))) (fun s3=>andT (fruns (d+1) s3 f.subs) F)))):=cW
    obtain ⟨p1,c1,rfl, -⟩:=N1t.form
    obtain ⟨p2,c2,rfl, -⟩:=N2t.form
    clear TC hSr wk cW N1t N2t
    generalize f.rgx[k].k=X0 at*
    generalize f.rgx[k].test.length=L1 at*
    generalize f.rgx[k].subs.length=L2 at*
    have nw:IntKind.i64.wrap (d+1)=d+1:=by rw [IntKind.wrap_i64];omega
    have nw2:wrap64 (d+1)=d+1:=by unfold wrap64;omega
    go_wp2_with fail
    refine HcW.out.mono ?_
    rintro r w6 ⟨⟨v6,rfl⟩,h6⟩
    have hK6:KeepT q w10 w6:=hKr.trans h6.out.1
    have HS6:Hid (_):=h6.out.2
    clear h6 HcW
    go_wp2
    exact ⟨⟨k+1,by omega,by go_num,hK6,HS6.out⟩,by simp [intOf];omega⟩
  have hlt':(k:Int)<nt:=by omega
  have kx:k<f.terms.length:=by have:=ent.out;omega
  obtain ⟨b,off,u,rfl,hb,TC,TS,TF⟩:=HXT.out k kx
  have hBr:Below w0.heap.size w0 wr:=hw.trans ((hK9.trans hKr).below (B:=w0.heap.size) hq (Nat.le_of_lt hqw))
  obtain ⟨a0,a1,a2,a3,a4,a5,a6⟩:=TC.below hBr hb
  have wk:=CT.out k kx u TS TF
  have cW:=wk wr R (fun s1=>andT (truns (d+1) s1 (f.terms.drop (k+1))) (fun s2=>andT (rruns (d+1) s2 f.rgx) fun s3=>andT (fruns (d+1) s3 f.subs) F)) hBr (hSr.out.cast (fun s=>by rw [List.drop_eq_getElem_cons kx,truns_and]))
  have HcW:Hid (Calls Tryz.prog 66 #[.pointer (some ⟨q,0,none⟩),.agg #[.int .i64 f.terms[k].k,.string f.terms[k].nm,.int .i64 f.terms[k].v.k,.int .i64 f.terms[k].v.n,.int .i64 f.terms[k].v.d,.string f.terms[k].v.s,u],.int .i64 (d+1)] wr fun e9 w'=>(∃ v,e9=.returned v)∧Hid (KeepT q wr w'∧WS w' q R (fun s1=>andT (truns (d+1) s1 (f.terms.drop (k+1))) (fun s2=>andT (rruns (d+1) s2 f.rgx) fun s3=>andT (fruns (d+1) s3 f.subs) F)))):=cW
  clear TC hSr wk cW TS TF
  generalize f.terms[k].k=X0 at*
  generalize f.terms[k].nm=X1 at*
  generalize f.terms[k].v.k=X2 at*
  generalize f.terms[k].v.n=X3 at*
  generalize f.terms[k].v.d=X4 at*
  generalize f.terms[k].v.s=X5 at*
  have nw:IntKind.i64.wrap (d+1)=d+1:=by rw [IntKind.wrap_i64];omega
  have nw2:wrap64 (d+1)=d+1:=by unfold wrap64;omega
  go_wp2_with fail
  refine HcW.out.mono ?_
  rintro r w6 ⟨⟨v6,rfl⟩,h6⟩
  have hK6:KeepT q w9 w6:=hKr.trans h6.out.1
  have HS6:Hid (_):=h6.out.2
  clear h6 HcW
  go_wp2
  exact ⟨⟨k+1,by omega,by go_num,hK6,HS6.out⟩,by simp [intOf];omega⟩
theorem rregex_all (w0:World) (q:Nat) (hq:w0.heap.size≤q) (r:Rx) (ut us:Value) (ht:FmsAt w0 ut r.test) (hs:RxsAt w0 us r.subs) (d:Int) (hd0:0≤d) (hd1:d≤25)
  (IR:d≤24→∀ (i:Nat) (hi:i<r.subs.length) (u1 u2:Value),FmsAt w0 u1 r.subs[i].test→RxsAt w0 u2 r.subs[i].subs→Walks w0 q 67 (.agg #[.int .i64 r.subs[i].k,u1,u2]) (d+1) (fun s=>rrun (d+1) s r.subs[i]))
  (IF:d≤24→∀ (i:Nat) (hi:i<r.test.length) (y:FQ),QAt w0 (r.test[i],y)→Walks w0 q 37 (.agg #[.int .i64 r.test[i].k,.string r.test[i].nm,.int .i64 r.test[i].op,y.v,y.t,.int .i64 r.test[i].lo,.int .i64 r.test[i].hi,.bool r.test[i].opn,y.s,y.r]) (d+1) (fun s=>frun (d+1) s r.test[i]))
  (N M:Int) (w:World) (R:Int×(Int×Int)) (F:Int×Int→Int×(Int×Int)) (hw:Below w0.heap.size w0 w) (hK:WK w q N M 0) (ho:OkS (N,M)) (hR:R=andT (rrun d (N,M) r) F):
  Calls Tryz.prog 67 #[.pointer (some ⟨q,0,none⟩),.agg #[.int .i64 r.k,ut,us],.int .i64 d] w fun e w'=>(∃ v,e=.returned v)∧Hid (KeepT q w w'∧WS w' q R F):=by
 obtain ⟨pt,ct,rfl,hlt0,hct,HXF0⟩:=ht.form
 have HXF:Hid (∀ i (hi:i<r.test.length),∃ b off uv ut us ur,pt=some ⟨b,off,none⟩∧b<w0.heap.size∧FmC w0 b (off+i*10) r.test[i] uv ut us ur∧NmsAt w0 uv r.test[i].vars∧TmsAt w0 ut r.test[i].terms∧FmsAt w0 us r.test[i].subs∧RxsAt w0 ur r.test[i].rgx):=HXF0
 obtain ⟨ps,cs,rfl,hls,hcs,HXR0⟩:=hs.form
 have HXR:Hid (∀ i (hi:i<r.subs.length),∃ b off ut us,ps=some ⟨b,off,none⟩∧b<w0.heap.size∧RxC w0 b (off+i*3) r.subs[i] ut us∧FmsAt w0 ut r.subs[i].test∧RxsAt w0 us r.subs[i].subs):=HXR0
 have HW:Hid (WK w q N M 0):=hK
 have HO:Hid (OkS (N,M)):=ho
 have hqw:q<w.heap.size:=hK.lt
 have HR0:Hid (R=andT (meetE d (N,M),meetS d (N,M)) fun s1=>andT (rxE r,s1) fun s1=>andT (fruns (d+1) s1 r.test) fun s2=>andT (rruns (d+1) s2 r.subs) F):=by
  have h:=hR
  rw [rrun_eq] at h
  simp only [andT_assoc] at h
  exact h
 have HE:Hid (ndE d N=meetE d (N,M)):=nd_meet (s:=(N,M)) HO.out
 have CR0:Hid (_):=IR
 have CF0:Hid (_):=IF
 clear IR IF ht hs HXF0 HXR0 hK ho hR
 obtain ⟨FE,hFE⟩:∃ FE,Hid (rxE r=FE):=⟨_,rfl⟩
 have HD:Hid ((if r.k<1∨5<r.k then 20 else if r.test.length≠(if r.k=2 then 1 else 0)∨r.subs.length≠(if r.k=3∨r.k=4 then 2 else if r.k=5 then 1 else 0) then 1 else 0)=FE):=hFE.out
 rw [hFE.out] at HR0
 clear hFE
 obtain ⟨nt,ent⟩:∃ n:Nat,Hid (r.test.length=n):=⟨_,rfl⟩
 obtain ⟨ns,ens⟩:∃ n:Nat,Hid (r.subs.length=n):=⟨_,rfl⟩
 rw [ent.out] at hlt0 hct HD ⊢
 rw [ens.out] at hls hcs HD ⊢
 generalize r.k=tk at*
 have hne:w.heap.size≠q:=by omega
 go_enter Tryz.func67,Tryz.ntmps67
 go_wp2_with fail
 refine (rnode_any q N M d _ (HW.out.alloc _) ⟨HO.out.1,by have:=HO.out.2.1;simp at this;omega⟩).mono ?_
 rintro r9 w1 ⟨rfl,h1⟩
 have hK1:KeepT q w w1:=(KeepT.of ((Below.refl _ _).alloc (Nat.le_refl _) _)).trans h1.out.2.keep
 have W1:Hid (WK w1 q (N+1) (if M<d then d else M) (ndE d N)):=h1.out.1
 have B1:Hid (w1.heap[w.heap.size]? =_):=(h1.out.2.block w.heap.size (by simp) hne).trans (heap_allocA w _)
 clear h1
 by_cases hE:ndE d N=0
 case neg=>
  have hE':(ndE d N==0)=false:=by simpa using hE
  rw [hE']
  go_wp2
  refine bodyPost_ret (results_none rfl _ _ _) rfl ?_
  refine ⟨⟨_,rfl⟩,hK1,_,_,_,W1.out,fun e=>absurd e hE,fun _=> ?_⟩
  have h:=HR0.out
  rw [← HE.out] at h
  rw [h,andT_ne hE]
 have hE':(ndE d N==0)=true:=by simpa using hE
 rw [hE']
 obtain ⟨N1,hN1⟩:∃ N1,Hid (N+1=N1):=⟨_,rfl⟩
 obtain ⟨M1,hM1⟩:∃ M1,Hid ((if M<d then d else M)=M1):=⟨_,rfl⟩
 have W1':Hid (WK w1 q N1 M1 0):=by have h:=W1.out;rw [hE,hN1.out,hM1.out] at h;exact h
 clear W1
 have hmS:Hid (meetS d (N,M)=(N1,M1)):=by
  have e:meetE d (N,M)=0:=by rw [← HE.out];exact hE
  unfold meetS
  rw [if_pos e,← hN1.out,← hM1.out,Int.max_def]
  show (N+1,if M≤d then d else M)=(N+1,if M<d then d else M)
  congr 1
  by_cases h:M<d
  ·rw [if_pos h,if_pos (by omega)]
  ·rw [if_neg h];split<;>omega
 have HR1:Hid (R=andT (FE,(N1,M1)) fun s1=>andT (fruns (d+1) s1 r.test) fun s2=>andT (rruns (d+1) s2 r.subs) F):=by
  have h:=HR0.out
  rw [← HE.out,hE,andT_eq,hmS.out] at h
  exact h
 have hd24:d≤24:=meetE_le (s:=(N,M)) (by rw [← HE.out];exact hE)
 have HOk:Hid (OkS (N1,M1)):=by rw [← hmS.out];exact meetS_ok HO.out hd0
 have CR:=CR0.out hd24
 have CF:=CF0.out hd24
 have CR:Hid (_):=CR
 have CF:Hid (_):=CF
 clear HR0 HE hE hE' hN1 hM1 hmS CR0 CF0
 have HNo:Hid (¬ FE=0→∀ W:World,WK W q N1 M1 FE→WS W q R F):=by
  intro h W hW
  have hr:=HR1.out
  rw [andT_ne h] at hr
  exact ⟨_,_,_,hW,fun e=>absurd e h,fun _=>by rw [hr]⟩
 have e0:w1.cell? ⟨w.heap.size,0,none⟩=some (.int .i64 tk):=by rw [Lib.cell_of_heap B1.out];rfl
 obtain ⟨E2,hE2⟩:∃ E2:Int,Hid ((if tk<1∨5<tk then 20 else 0)=E2):=⟨_,rfl⟩
 go_upto_region 3 with fail
 go_cut [] (fun wx=>Hid (WK wx q N1 M1 E2∧Fr (fun k=>k=q) w1 wx))
 case first=>
  have fin:∀ (wx:World) (is:Bool),Hid (WK wx q N1 M1 (wrE is 20 0)∧Fr (fun k=>k=q) w1 wx)→is=decide (tk<1∨5<tk)→Hid (WK wx q N1 M1 E2∧Fr (fun k=>k=q) w1 wx):=by
   intro wx is h e
   rw [show wrE is 20 0=E2 by rw [← hE2.out,e];unfold wrE;by_cases hx:tk<1∨5<tk<;>simp [hx]] at h
   exact h
  by_cases hl:tk<1
  ·go_wp2_with fail
   refine (rwrong_any q N1 M1 0 20 _ w1 W1'.out).mono ?_
   rintro r9 w2 ⟨⟨v2,rfl⟩,h2⟩
   go_wp2_with fail
   go_meet
   exact fin _ _ h2 (by simp [hl])
  ·by_cases hg:5<tk
   ·go_wp2_with fail
    refine (rwrong_any q N1 M1 0 20 _ w1 W1'.out).mono ?_
    rintro r9 w2 ⟨⟨v2,rfl⟩,h2⟩
    go_wp2_with fail
    go_meet
    exact fin _ _ h2 (by simp [hg])
   ·go_wp2_with fail
    refine (rwrong_any q N1 M1 0 20 _ w1 W1'.out).mono ?_
    rintro r9 w2 ⟨⟨v2,rfl⟩,h2⟩
    go_wp2_with fail
    go_meet
    exact fin _ _ h2 (by simp [hl,hg])
 case rest=>
 obtain ⟨w2,ew⟩:∃ W:World,W=wc:=⟨_,rfl⟩
 subst ew
 have W2:Hid (WK w2 q N1 M1 E2):=hcut.out.1
 have B2:Hid (_):=hcut.out.2.heap B1.out hne
 have hK2:KeepT q w w2:=hK1.trans hcut.out.2.keep
 clear hcut e0 B1 hK1 W1'
 have e0:w2.cell? ⟨w.heap.size,0,none⟩=some (.int .i64 tk):=by rw [Lib.cell_of_heap B2.out];rfl
 have e1:w2.cell? ⟨w.heap.size,1,none⟩=some (.slice pt nt ct):=by rw [Lib.cell_of_heap B2.out];rfl
 have e2:w2.cell? ⟨w.heap.size,2,none⟩=some (.slice ps ns cs):=by rw [Lib.cell_of_heap B2.out];rfl
 go_upto_block 0 with fail
 go_cut [7,8] (fun a b wx=>∃ NT NS:Nat,a=.int .i64 (NT:Int)∧b=.int .i64 (NS:Int)∧w2=wx∧Hid (E2=0→NT=(if tk=2 then 1 else 0)∧NS=(if tk=3∨tk=4 then 2 else if tk=5 then 1 else 0)))
 case first=>
  clear HD HR1 HNo HOk HXF HXR CR CF W2 B2 hK2
  have hp:(tk<1∨5<tk)∨tk=1∨tk=2∨tk=3∨tk=4∨tk=5:=by omega
  rcases hp with hp | hp | hp | hp | hp | hp
  ·have x2:(tk==2)=false:=by simp;omega
   have x3:(tk==3)=false:=by simp;omega
   have x4:(tk==4)=false:=by simp;omega
   have x5:(tk==5)=false:=by simp;omega
   go_wp2_with fail
   go_meet
   exact ⟨0,0,rfl,rfl,rfl,fun h=>by have e:=hE2.out;rw [if_pos hp,h] at e;exact absurd e (by decide)⟩
  all_goals
   subst hp
   go_wp2_with fail
   go_meet
  ·exact ⟨0,0,rfl,rfl,rfl,fun _=>⟨by decide,by decide⟩⟩
  ·exact ⟨1,0,rfl,rfl,rfl,fun _=>⟨by decide,by decide⟩⟩
  ·exact ⟨0,2,rfl,rfl,rfl,fun _=>⟨by decide,by decide⟩⟩
  ·exact ⟨0,2,rfl,rfl,rfl,fun _=>⟨by decide,by decide⟩⟩
  ·exact ⟨0,1,rfl,rfl,rfl,fun _=>⟨by decide,by decide⟩⟩
 case rest=>
 obtain ⟨NT,NS,rfl,rfl,rfl,hN⟩:=hcut
 go_upto_region 14 with fail
 go_cut [] (fun wx=>Hid (WK wx q N1 M1 FE∧Fr (fun k=>k=q) w2 wx))
 case first=>
  have fin:∀ (wx:World) (is:Bool),Hid (WK wx q N1 M1 (wrE is 1 E2)∧Fr (fun k=>k=q) w2 wx)→is= !decide (nt=NT∧ns=NS)→Hid (WK wx q N1 M1 FE∧Fr (fun k=>k=q) w2 wx):=by
   intro wx is h e
   have e1:wrE is 1 E2=FE:=by
    have hd:=HD.out
    have h2:=hE2.out
    have hn:=hN.out
    rw [e]
    by_cases hx:tk<1∨5<tk
    ·rw [if_pos hx] at h2 hd
     rw [← h2,← hd]
     simp [wrE]
    ·rw [if_neg hx] at h2 hd
     obtain ⟨n1,n2⟩:=hn h2.symm
     rw [← h2,← hd,← n1,← n2]
     unfold wrE
     by_cases ha:nt=NT<;>by_cases hb:ns=NS<;>simp [ha,hb]
   rw [e1] at h
   exact h
  clear HD HR1 HNo HOk HXF HXR CR CF hN hE2
  by_cases hT:nt=NT
  case neg=>
   have t2:((nt:Int) != (NT:Int))=true:=by simp;omega
   go_wp2_with fail
   refine (rwrong_any q N1 M1 _ 1 _ _ W2.out).mono ?_
   rintro r9 w9 ⟨⟨v9,rfl⟩,h9⟩
   go_wp2_with fail
   go_meet
   exact fin _ _ h9 (by simp [hT])
  have t2:((nt:Int) != (NT:Int))=false:=by simp;omega
  have HT:Hid (nt=NT):=hT
  clear hT
  by_cases hS:ns=NS
  case neg=>
   have s2:((ns:Int) != (NS:Int))=true:=by simp;omega
   go_wp2_with fail
   refine (rwrong_any q N1 M1 _ 1 _ _ W2.out).mono ?_
   rintro r9 w9 ⟨⟨v9,rfl⟩,h9⟩
   go_wp2_with fail
   go_meet
   exact fin _ _ h9 (by simp [hS])
  have s2:((ns:Int) != (NS:Int))=false:=by simp;omega
  have HS:Hid (ns=NS):=hS
  clear hS
  go_wp2_with fail
  refine (rwrong_any q N1 M1 _ 1 _ _ W2.out).mono ?_
  rintro r9 w9 ⟨⟨v9,rfl⟩,h9⟩
  go_wp2_with fail
  go_meet
  exact fin _ _ h9 (by simp [HT.out,HS.out])
 case rest=>
 obtain ⟨w9,ew⟩:∃ W:World,W=wc:=⟨_,rfl⟩
 subst ew
 have W9:Hid (WK w9 q N1 M1 FE):=hcut.out.1
 have B9:Hid (_):=hcut.out.2.heap B2.out hne
 have hK9:KeepT q w w9:=hK2.trans hcut.out.2.keep
 clear hcut hN hE2 HD W2 B2 hK2 e0 e1 e2
 have y2:w9.cell? ⟨q,2,none⟩=some (.int .i64 FE):=W9.out.e
 by_cases hz:FE=0
 case neg=>
  have tn':(FE==0)=false:=by simpa using hz
  have tn'':(FE != 0)=true:=by simpa using hz
  go_wp2
  refine bodyPost_ret (results_none rfl _ _ _) rfl ?_
  exact ⟨⟨_,rfl⟩,hK9,HNo.out hz _ W9.out⟩
 subst hz
 have S9:Hid (WS w9 q R (fun s1=>andT (fruns (d+1) s1 r.test) fun s2=>andT (rruns (d+1) s2 r.subs) F)):=WS.of W9.out HOk.out (by have h:=HR1.out;rw [andT_eq] at h;exact h)
 clear HR1 HNo
 go_wp2
 go_loopw [9] (fun v wr=>∃ k:Nat,k≤nt∧v=.int .i64 k∧KeepT q w9 wr∧Hid (WS wr q R (fun s=>andT (fruns (d+1) s (r.test.drop k)) (fun s2=>andT (rruns (d+1) s2 r.subs) F)))) (fun v _=>nt - (intOf v).toNat)
 case atStart=>exact ⟨0,Nat.zero_le _,rfl,KeepT.refl _ _,by rw [List.drop_zero];exact S9⟩
 case round=>
  obtain ⟨k,hk,rfl,hKr,hSr⟩:=hrel
  have Br:Hid (_):=(hKr.block w.heap.size (lt_heap B9.out) hne).trans B9.out
  have r6:wr.cell? ⟨w.heap.size,1,none⟩=some (.slice pt nt ct):=by rw [Lib.cell_of_heap Br.out];rfl
  by_cases hlt:k<nt
  case neg=>
   have c2:¬ (k:Int)<nt:=by omega
   obtain ⟨w10,ew⟩:∃ W:World,W=wr:=⟨_,rfl⟩
   subst ew
   have S10:Hid (WS w10 q R (fun s2=>andT (rruns (d+1) s2 r.subs) F)):=hSr.out.cast (fun s=>by rw [List.drop_eq_nil_of_le (by have:=ent.out;omega),fruns_nil];exact andT_eq)
   have hK10:KeepT q w w10:=hK9.trans hKr
   have B10:Hid (_):=Br.out
   clear hSr hKr Br
   go_wp2
   clear r6 c2 hk hlt
   go_loopw [10] (fun v wr=>∃ k:Nat,k≤ns∧v=.int .i64 k∧KeepT q w10 wr∧Hid (WS wr q R (fun s=>andT (rruns (d+1) s (r.subs.drop k)) F))) (fun v _=>ns - (intOf v).toNat)
   case atStart=>exact ⟨0,Nat.zero_le _,rfl,KeepT.refl _ _,by rw [List.drop_zero];exact S10⟩
   case round=>
    obtain ⟨k,hk,rfl,hKr,hSr⟩:=hrel
    have Br:Hid (_):=(hKr.block w.heap.size (lt_heap B10.out) hne).trans B10.out
    have r6:wr.cell? ⟨w.heap.size,2,none⟩=some (.slice ps ns cs):=by rw [Lib.cell_of_heap Br.out];rfl
    by_cases hlt:k<ns
    case neg=>
     have c2:¬ (k:Int)<ns:=by omega
     have S11:Hid (WS wr q R F):=hSr.out.cast (fun s=>by rw [List.drop_eq_nil_of_le (by have:=ens.out;omega),rruns_nil];exact andT_eq)
     have hK11:KeepT q w wr:=hK10.trans hKr
     go_wp2
     go_end0
     exact ⟨⟨_,rfl⟩,hK11,S11.out⟩
    have hlt':(k:Int)<ns:=by omega
    have kx:k<r.subs.length:=by have:=ens.out;omega
    obtain ⟨b,off,u1,u2,rfl,hb,TC,N1t,N2t⟩:=HXR.out k kx
    have hBr:Below w0.heap.size w0 wr:=hw.trans ((hK10.trans hKr).below (B:=w0.heap.size) hq (Nat.le_of_lt hqw))
    obtain ⟨a0,a1,a2⟩:=TC.below hBr hb
    have wk:=CR.out k kx u1 u2 N1t N2t
    have cW:=wk wr R (fun s1=>andT (rruns (d+1) s1 (r.subs.drop (k+1))) F) hBr (hSr.out.cast (fun s=>by rw [List.drop_eq_getElem_cons kx,rruns_and]))
    have HcW:Hid (Calls Tryz.prog 67 #[.pointer (some ⟨q,0,none⟩),.agg #[.int .i64 r.subs[k].k,u1,u2],.int .i64 (d+1)] wr fun e9 w'=>(∃ v,e9=.returned v)∧Hid (KeepT q wr w'∧WS w' q R (fun s1=>andT (rruns (d+1) s1 (r.subs.drop (k+1))) F))):=cW
    obtain ⟨p1,c1,rfl, -⟩:=N1t.form
    obtain ⟨p2,c2,rfl, -⟩:=N2t.form
    clear TC hSr wk cW N1t N2t
    generalize r.subs[k].k=X0 at*
    generalize r.subs[k].test.length=L1 at*
    generalize r.subs[k].subs.length=L2 at*
    have nw:IntKind.i64.wrap (d+1)=d+1:=by rw [IntKind.wrap_i64];omega
    have nw2:wrap64 (d+1)=d+1:=by unfold wrap64;omega
    go_wp2_with fail
    refine HcW.out.mono ?_
    rintro r w6 ⟨⟨v6,rfl⟩,h6⟩
    have hK6:KeepT q w10 w6:=hKr.trans h6.out.1
    have HS6:Hid (_):=h6.out.2
    clear h6 HcW
    go_wp2
    exact ⟨⟨k+1,by omega,by go_num,hK6,HS6.out⟩,by simp [intOf];omega⟩
  have hlt':(k:Int)<nt:=by omega
  have kx:k<r.test.length:=by have:=ent.out;omega
  obtain ⟨b,off,u1,u2,u3,u4,rfl,hb,TC,N1t,N2t,N3t,N4t⟩:=HXF.out k kx
  have hBr:Below w0.heap.size w0 wr:=hw.trans ((hK9.trans hKr).below (B:=w0.heap.size) hq (Nat.le_of_lt hqw))
  obtain ⟨a0,a1,a2,a3,a4,a5,a6,a7,a8,a9⟩:=TC.below hBr hb
  have wk:=CF.out k kx ⟨u1,u2,u3,u4⟩ ⟨N1t,N2t,N3t,N4t⟩
  have cW:=wk wr R (fun s1=>andT (fruns (d+1) s1 (r.test.drop (k+1))) (fun s2=>andT (rruns (d+1) s2 r.subs) F)) hBr (hSr.out.cast (fun s=>by rw [List.drop_eq_getElem_cons kx,fruns_and]))
  have HcW:Hid (Calls Tryz.prog 37 #[.pointer (some ⟨q,0,none⟩),.agg #[.int .i64 r.test[k].k,.string r.test[k].nm,.int .i64 r.test[k].op,u1,u2,.int .i64 r.test[k].lo,.int .i64 r.test[k].hi,.bool r.test[k].opn,u3,u4],.int .i64 (d+1)] wr fun e9 w'=>(∃ v,e9=.returned v)∧Hid (KeepT q wr w'∧WS w' q R (fun s1=>andT (fruns (d+1) s1 (r.test.drop (k+1))) (fun s2=>andT (rruns (d+1) s2 r.subs) F)))):=cW
  obtain ⟨-,p1,c1,rfl, -⟩:=N1t
  obtain ⟨p2,c2,rfl, -⟩:=N2t.form
  obtain ⟨p3,c3,rfl, -⟩:=N3t.form
  obtain ⟨p4,c4,rfl, -⟩:=N4t.form
  clear TC hSr wk cW N2t N3t N4t
  generalize r.test[k].k=X0 at*
  generalize r.test[k].nm=X1 at*
  generalize r.test[k].op=X2 at*
  generalize r.test[k].lo=X3 at*
  generalize r.test[k].hi=X4 at*
  generalize r.test[k].opn=X5 at*
  generalize r.test[k].vars.length=L1 at*
  generalize r.test[k].terms.length=L2 at*
  generalize r.test[k].subs.length=L3 at*
  generalize r.test[k].rgx.length=L4 at*
  have nw:IntKind.i64.wrap (d+1)=d+1:=by rw [IntKind.wrap_i64];omega
  have nw2:wrap64 (d+1)=d+1:=by unfold wrap64;omega
  go_wp2_with fail
  refine HcW.out.mono ?_
  rintro r w6 ⟨⟨v6,rfl⟩,h6⟩
  have hK6:KeepT q w9 w6:=hKr.trans h6.out.1
  have HS6:Hid (_):=h6.out.2
  clear h6 HcW
  go_wp2
  exact ⟨⟨k+1,by omega,by go_num,hK6,HS6.out⟩,by simp [intOf];omega⟩
theorem rboth_walks (w0:World) (q:Nat) (hq:w0.heap.size≤q):∀ m:Nat,(∀ (f:Fm) (y:FQ) (d:Int),SizeOf.sizeOf f≤m→QAt w0 (f,y)→0≤d→d≤25→Walks w0 q 37 (.agg #[.int .i64 f.k,.string f.nm,.int .i64 f.op,y.v,y.t,.int .i64 f.lo,.int .i64 f.hi,.bool f.opn,y.s,y.r]) d (fun s=>frun d s f))∧(∀ (r:Rx) (u1 u2:Value) (d:Int),SizeOf.sizeOf r≤m→FmsAt w0 u1 r.test→RxsAt w0 u2 r.subs→0≤d→d≤25→Walks w0 q 67 (.agg #[.int .i64 r.k,u1,u2]) d (fun s=>rrun d s r)):=by
 intro m
 induction m with
 | zero=>exact ⟨fun f y d hm=>by cases f;simp at hm,fun r u1 u2 d hm=>by cases r;simp at hm⟩
 | succ m ih=>
  refine ⟨fun f y d hm hQ h0 h1 W R F hW hS=> ?_,fun r u1 u2 d hm ht hs h0 h1 W R F hW hS=> ?_⟩
  ·obtain ⟨N,M,E,h,g1,g2⟩:=hS
   by_cases hE:E=0
   case neg=>
    refine (rformula_no q N M E d _ _ _ _ _ _ y.v y.t y.s y.r W h hE).mono ?_
    rintro r w' ⟨hv,g⟩
    exact ⟨hv,KeepT.of g.out.1,N,M,E,g.out.2,fun e=>absurd e hE,g2⟩
   subst hE
   obtain ⟨ho,hR⟩:=g1 rfl
   have IT:d≤24→∀ (i:Nat) (hi:i<f.terms.length) (u:Value),TmsAt w0 u f.terms[i].subs→f.terms[i].v.Fits→Walks w0 q 66 (.agg #[.int .i64 f.terms[i].k,.string f.terms[i].nm,.int .i64 f.terms[i].v.k,.int .i64 f.terms[i].v.n,.int .i64 f.terms[i].v.d,.string f.terms[i].v.s,u]) (d+1) (fun s=>trun (d+1) s f.terms[i]):=fun h i hi u hu hf=>rterm_walks w0 q hq _ u hu hf (d+1) (by omega) (by omega)
   have IR:d≤24→∀ (i:Nat) (hi:i<f.rgx.length) (u1 u2:Value),FmsAt w0 u1 f.rgx[i].test→RxsAt w0 u2 f.rgx[i].subs→Walks w0 q 67 (.agg #[.int .i64 f.rgx[i].k,u1,u2]) (d+1) (fun s=>rrun (d+1) s f.rgx[i]):=fun h i hi u1 u2 a b=>ih.2 _ u1 u2 (d+1) (by have a:=mem_lt i hi;have b:=f.rgx_lt;omega) a b (by omega) (by omega)
   have IF:d≤24→∀ (i:Nat) (hi:i<f.subs.length) (y:FQ),QAt w0 (f.subs[i],y)→Walks w0 q 37 (.agg #[.int .i64 f.subs[i].k,.string f.subs[i].nm,.int .i64 f.subs[i].op,y.v,y.t,.int .i64 f.subs[i].lo,.int .i64 f.subs[i].hi,.bool f.subs[i].opn,y.s,y.r]) (d+1) (fun s=>frun (d+1) s f.subs[i]):=fun h i hi y a=>ih.1 _ y (d+1) (by have a:=mem_lt i hi;have b:=f.subs_lt;omega) a (by omega) (by omega)
   exact rformula_all w0 q hq f y.v y.t y.s y.r hQ d h0 h1 IT IR IF N M W R F hW h ho hR
  ·obtain ⟨N,M,E,h,g1,g2⟩:=hS
   by_cases hE:E=0
   case neg=>
    refine (rregex_no q N M E d _ u1 u2 W h hE).mono ?_
    rintro r w' ⟨hv,g⟩
    exact ⟨hv,KeepT.of g.out.1,N,M,E,g.out.2,fun e=>absurd e hE,g2⟩
   subst hE
   obtain ⟨ho,hR⟩:=g1 rfl
   have IR:d≤24→∀ (i:Nat) (hi:i<r.subs.length) (u1 u2:Value),FmsAt w0 u1 r.subs[i].test→RxsAt w0 u2 r.subs[i].subs→Walks w0 q 67 (.agg #[.int .i64 r.subs[i].k,u1,u2]) (d+1) (fun s=>rrun (d+1) s r.subs[i]):=fun h i hi u1 u2 a b=>ih.2 _ u1 u2 (d+1) (by have a:=mem_lt i hi;have b:=r.subs_lt;omega) a b (by omega) (by omega)
   have IF:d≤24→∀ (i:Nat) (hi:i<r.test.length) (y:FQ),QAt w0 (r.test[i],y)→Walks w0 q 37 (.agg #[.int .i64 r.test[i].k,.string r.test[i].nm,.int .i64 r.test[i].op,y.v,y.t,.int .i64 r.test[i].lo,.int .i64 r.test[i].hi,.bool r.test[i].opn,y.s,y.r]) (d+1) (fun s=>frun (d+1) s r.test[i]):=fun h i hi y a=>ih.1 _ y (d+1) (by have a:=mem_lt i hi;have b:=r.test_lt;omega) a (by omega) (by omega)
   exact rregex_all w0 q hq r u1 u2 ht hs d h0 h1 IR IF N M W R F hW h ho hR
theorem rformula_walk (w0:World) (q:Nat) (hq:w0.heap.size≤q) (f:Fm) (y:FQ) (hQ:QAt w0 (f,y)) (W:World) (hW:Below w0.heap.size w0 W) (h:WK W q 0 0 0):
  Calls Tryz.prog 37 #[.pointer (some ⟨q,0,none⟩),.agg #[.int .i64 f.k,.string f.nm,.int .i64 f.op,y.v,y.t,.int .i64 f.lo,.int .i64 f.hi,.bool f.opn,y.s,y.r],.int .i64 1] W fun r w'=>(∃ v,r=.returned v)∧Hid (KeepT q W w'∧WQ w' q (frun 1 (0,0) f)):=by
 refine ((rboth_walks w0 q hq (SizeOf.sizeOf f)).1 f y 1 (Nat.le_refl _) hQ (by decide) (by decide) W (frun 1 (0,0) f) (fun s=>(0,s)) hW (WS.of h ⟨by decide,by decide,by decide,by decide⟩ ?_)).mono ?_
 ·show _=andT _ _
  unfold andT
  by_cases hz:(frun 1 (0,0) f).1=0
  ·rw [if_pos hz];exact Prod.ext hz rfl
  ·rw [if_neg hz]
 ·rintro r w' ⟨hv,g⟩
  exact ⟨hv,g.out.1,g.out.2.wq⟩
theorem few_iff (f:Fm):((fre f).2≤8)↔(fre f).1.length≤8∧∀ i (hi:i<(ptsF f).length),(fre (ptsF f)[i]).2≤8:=by
 rw [fre_eq]
 show max _ _≤8↔(freO f _).length≤8∧_
 constructor
 ·intro h
  refine ⟨by omega,fun i hi=> ?_⟩
  have:=mx_ge (l:=(ptsF f).map fun g=>(fre g).2) (x:=(fre (ptsF f)[i]).2) (List.mem_map.2 ⟨_,List.getElem_mem hi,rfl⟩)
  omega
 ·rintro ⟨h1,h2⟩
  have:mx ((ptsF f).map fun g=>(fre g).2)≤8:=mx_le fun x hx=>by
   obtain ⟨g,hg,rfl⟩:=List.mem_map.1 hx
   obtain ⟨i,hi,e⟩:=List.getElem_of_mem hg
   rw [← e]
   exact h2 i hi
  omega
theorem run_good {f:Fm} (h0:(frun 1 (0,0) f).1=0):wfF f∧nodF f≤256:=by
 have h1:=fruns_good (fs:=[f]) (dep:=1) (s:=(0,0)) (by rw [fruns_one];exact pair0 h0)
 rw [wfFs_cons,nodFs_cons,nodFs_nil] at h1
 have h2:OkS (frun 1 (0,0) f).2:=frun_okS f
 have h3:((frun 1 (0,0) f).2).1≤256:=h2.2.1
 refine ⟨h1.1.1, ?_⟩
 have:=h1.2
 simp at this
 omega
theorem rfew_any (w0:World):∀ (m:Nat) (f:Fm) (y:FQ) (w:World),nodF f<m→nodF f≤256→wfF f→QAt w0 (f,y)→Below w0.heap.size w0 w→
  Calls Tryz.prog 38 #[.agg #[.int .i64 f.k,.string f.nm,.int .i64 f.op,y.v,y.t,.int .i64 f.lo,.int .i64 f.hi,.bool f.opn,y.s,y.r]] w fun e w'=>e=.returned (.bool (decide ((fre f).2≤8)))∧Below w.heap.size w w':=by
 intro m
 induction m with
 | zero=>intro f y w hm;omega
 | succ m ih=>
  intro f y w hm hn hok hQ hw
  have hE:fmE f=0:=by rw [wfF_eq] at hok;exact hok.1
  have hpa:=pts_app hE
  have hpn:=pts_nod f
  have hpo:=pts_ok hok
  have hpl:(ptsF f).length≤256:=by have:=nodFs_len (ptsF f);omega
  have hfl:(fre f).1.length≤5000:=by have:=fre_len _ f (Nat.le_refl _) hok;omega
  have cV:Hid (∀ W:World,Below w0.heap.size w0 W→Calls Tryz.prog 39 #[.agg #[.int .i64 f.k,.string f.nm,.int .i64 f.op,y.v,y.t,.int .i64 f.lo,.int .i64 f.hi,.bool f.opn,y.s,y.r]] W fun e w'=>∃ v,e=.returned v∧OwnN W.heap.size v (fre f).1 w'∧Below W.heap.size W w'):=fun W hW=>rvars_any w0 _ f y W (Nat.lt_succ_self _) hn hok hQ hW
  have cPt:Hid (∀ W:World,Below w0.heap.size w0 W→Calls Tryz.prog 68 #[.agg #[.int .i64 f.k,.string f.nm,.int .i64 f.op,y.v,y.t,.int .i64 f.lo,.int .i64 f.hi,.bool f.opn,y.s,y.r]] W fun e w'=>∃ v,e=.returned v∧OwnF w0 (W.heap.size+1) v (ptsF f) w'∧Below W.heap.size W w'):=fun W hW=>by
   have h:=rparts_any w0 f y hQ W hW (by rw [← List.length_append,hpa];omega)
   rw [hpa] at h
   exact h
  have IHp:Hid (∀ (i:Nat) (hi:i<(ptsF f).length) (z:FQ) (W:World),QAt w0 ((ptsF f)[i],z)→Below w0.heap.size w0 W→Calls Tryz.prog 38 #[.agg #[.int .i64 (ptsF f)[i].k,.string (ptsF f)[i].nm,.int .i64 (ptsF f)[i].op,z.v,z.t,.int .i64 (ptsF f)[i].lo,.int .i64 (ptsF f)[i].hi,.bool (ptsF f)[i].opn,z.s,z.r]] W fun e w'=>e=.returned (.bool (decide ((fre (ptsF f)[i]).2≤8)))∧Below W.heap.size W w'):=fun i hi z W h1 h2=>ih _ z W (by have:=nodFs_get (ptsF f) i hi;omega) (by have:=nodFs_get (ptsF f) i hi;omega) (wfFs_get _ i hi hpo) h1 h2
  have HI:Hid (((fre f).2≤8)↔(fre f).1.length≤8∧∀ i (hi:i<(ptsF f).length),(fre (ptsF f)[i]).2≤8):=few_iff f
  have hw0:=hw.size
  obtain ⟨np,enp⟩:∃ n:Nat,Hid ((ptsF f).length=n):=⟨_,rfl⟩
  obtain ⟨FV0,eXQ⟩:∃ F:List ByteArray,Hid ((fre f).1=F):=⟨_,rfl⟩
  rw [eXQ.out] at cV HI hfl
  obtain ⟨BB,eBB⟩:∃ B:Bool,Hid (decide ((fre f).2≤8)=B):=⟨_,rfl⟩
  rw [eBB.out]
  have HI2:Hid (BB=true↔FV0.length≤8∧∀ i (hi:i<(ptsF f).length),(fre (ptsF f)[i]).2≤8):=by
   rw [← eBB.out,decide_eq_true_eq]
   exact HI.out
  rw [enp.out] at hpl
  clear HI eBB eXQ ih hm hn hok hE hpa hpn hpo
  obtain ⟨uv,ut,us,ur⟩:=y
  obtain ⟨h1,h2,h3,h4⟩:=hQ
  dsimp only at h1 h2 h3 h4 cV cPt ⊢
  obtain ⟨-,pv,cv,rfl, -, -⟩:=h1
  obtain ⟨pt,ct,rfl, -⟩:=h2.form
  obtain ⟨ps,cs,rfl, -⟩:=h3.form
  obtain ⟨pr,cr,rfl, -⟩:=h4.form
  clear h2 h3 h4
  generalize f.vars.length=nv at*
  generalize f.terms.length=nt at*
  generalize f.subs.length=ns at*
  generalize f.rgx.length=nr at*
  generalize f.lo=lo at*
  generalize f.hi=fhi at*
  generalize f.nm=nm at*
  generalize f.opn=o at*
  generalize f.op=op at*
  generalize f.k=fk at*
  go_enter Tryz.func38,Tryz.ntmps38
  go_wp2_with fail
  refine (cV.out _ (hw.alloc hw0 _)).mono ?_
  rintro e w1 ⟨v1,rfl,h1,hb1⟩
  have X1:Hid (w1.heap[w.heap.size]? =_):=(hb1.block w.heap.size (by simp)).trans (heap_allocA w _)
  have B1:Below w.heap.size w w1:=((Below.refl _ _).alloc (Nat.le_refl _) _).trans (hb1.mono (by simp))
  have B10:Below w0.heap.size w0 w1:=hw.trans (B1.mono hw0)
  obtain ⟨p1,c1,rfl, -⟩:=h1.cap
  obtain ⟨nf,enf⟩:∃ n:Nat,Hid (FV0.length=n):=⟨_,rfl⟩
  rw [enf.out] at HI2 hfl ⊢
  clear h1 hb1 cV
  by_cases h8:nf≤8
  case neg=>
   have h8':(8:Int)<nf:=by omega
   have hB:Hid (BB=false):=by
    have h:=HI2.out
    cases hbb:BB with
    | false=>exact rfl
    | true=>rw [hbb] at h;exact absurd (h.1 rfl).1 h8
   go_wp2
   go_ret
   exact ⟨ret_bool hB.out.symm,B1⟩
  have h8':¬ (8:Int)<nf:=by omega
  obtain ⟨e0,e1,e2,e3,e4,e5,e6,e7,e8,e9⟩:=box10 X1.out
  go_wp2_with fail
  refine (cPt.out _ B10).mono ?_
  rintro e w3 ⟨v6,rfl,h6,hb6⟩
  have P3:Hid (PtsAt w0 w3 v6 (ptsF f)):=h6.pts (by have:=enp.out;omega)
  have B3:Below w.heap.size w w3:=B1.trans (hb6.mono B1.size)
  clear h6 hb6 X1 B1 B10 cPt e0 e1 e2 e3 e4 e5 e6 e7 e8 e9
  obtain ⟨p6,c6,rfl,hl6,hc6,HP6⟩:=P3.out
  have HPP:Hid (_):=HP6
  clear P3 HP6
  rw [enp.out] at hl6 hc6 ⊢
  go_wp2
  go_loopw [5] (fun v wr=>∃ k:Nat,k≤np∧v=.int .i64 k∧Hid (∀ i (hi:i<(ptsF f).length),i<k→(fre (ptsF f)[i]).2≤8)∧Hid (Below w3.heap.size w3 wr)) (fun v _=>np - (intOf v).toNat)
  case atStart=>exact ⟨0,Nat.zero_le _,rfl,(fun i hi h=>by omega),Below.refl _ _⟩
  case round=>
   obtain ⟨k,hk,rfl,hAll,hBr⟩:=hrel
   have Bw:Below w.heap.size w wr:=B3.trans (hBr.out.mono B3.size)
   by_cases hlt:k<np
   case neg=>
    have c2:¬ (k:Int)<np:=by omega
    have hB:Hid (BB=true):=HI2.out.2 ⟨h8,fun i hi=>hAll.out i hi (by have:=enp.out;omega)⟩
    go_wp2
    go_ret
    exact ⟨ret_bool hB.out.symm,Bw⟩
   have hlt':(k:Int)<np:=by omega
   have kx:k<(ptsF f).length:=by have:=enp.out;omega
   obtain ⟨b,off,z,rfl,hb,TC,QZ⟩:=HPP.out k kx
   have B0r:Below w0.heap.size w0 wr:=hw.trans (Bw.mono hw0)
   obtain ⟨a0,a1,a2,a3,a4,a5,a6,a7,a8,a9⟩:=TC.below hBr.out hb
   have cI:=IHp.out k kx z wr QZ B0r
   obtain ⟨N1,N2,N3,N4⟩:=QZ
   obtain ⟨zv,zt,zs,zr⟩:=z
   dsimp only at N1 N2 N3 N4 a0 a1 a2 a3 a4 a5 a6 a7 a8 a9
   have HN:Hid ((fre (ptsF f)[k]).2≤8→∀ i (hi:i<(ptsF f).length),i<k+1→(fre (ptsF f)[i]).2≤8):=fun h i hi hik=>by
    by_cases e:i=k
    ·subst e;exact h
    ·exact hAll.out i hi (by omega)
   have HNo:Hid (¬ (fre (ptsF f)[k]).2≤8→BB=false):=fun h=>by
    have h2:=HI2.out
    cases hbb:BB with
    | false=>exact rfl
    | true=>rw [hbb] at h2;exact absurd ((h2.1 rfl).2 k kx) h
   obtain ⟨q8,eq8⟩:∃ q:Nat,Hid ((fre (ptsF f)[k]).2=q):=⟨(fre (ptsF f)[k]).2,(show _=_ from rfl)⟩
   rw [eq8.out] at HN HNo
   have CI:Hid (Calls Tryz.prog 38 #[.agg #[.int .i64 (ptsF f)[k].k,.string (ptsF f)[k].nm,.int .i64 (ptsF f)[k].op,zv,zt,.int .i64 (ptsF f)[k].lo,.int .i64 (ptsF f)[k].hi,.bool (ptsF f)[k].opn,zs,zr]] wr fun e w'=>e=.returned (.bool (decide (q8≤8)))∧Below wr.heap.size wr w'):=by rw [← eq8.out];exact cI
   obtain ⟨-,q1,d1,rfl, -⟩:=N1
   obtain ⟨q2,d2,rfl, -⟩:=N2.form
   obtain ⟨q3,d3,rfl, -⟩:=N3.form
   obtain ⟨q4,d4,rfl, -⟩:=N4.form
   clear TC N2 N3 N4 cI eq8 hAll
   generalize (ptsF f)[k].k=Y0 at*
   generalize (ptsF f)[k].nm=Y1 at*
   generalize (ptsF f)[k].op=Y2 at*
   generalize (ptsF f)[k].lo=Y3 at*
   generalize (ptsF f)[k].hi=Y4 at*
   generalize (ptsF f)[k].opn=Y5 at*
   generalize (ptsF f)[k].vars.length=L1 at*
   generalize (ptsF f)[k].terms.length=L2 at*
   generalize (ptsF f)[k].subs.length=L3 at*
   generalize (ptsF f)[k].rgx.length=L4 at*
   go_wp2_with fail
   refine CI.out.mono ?_
   rintro e w4 ⟨rfl,hb4⟩
   have K4:Hid (Below w3.heap.size w3 w4):=hBr.out.trans (hb4.mono hBr.out.size)
   have B4:Below w.heap.size w w4:=Bw.trans (hb4.mono Bw.size)
   clear CI hb4 hBr a0 a1 a2 a3 a4 a5 a6 a7 a8 a9
   by_cases hq:q8≤8
   ·have e8:decide (q8≤8)=true:=decide_eq_true hq
    rw [e8]
    have hA:Hid (_):=HN.out hq
    go_wp2
    exact ⟨⟨k+1,by omega,by go_num,hA,K4⟩,by simp [intOf];omega⟩
   ·have e8:decide (q8≤8)=false:=decide_eq_false hq
    rw [e8]
    have hB:=HNo.out hq
    have HB:Hid (BB=false):=hB
    clear hB
    go_wp2
    go_ret
    exact ⟨ret_bool HB.out.symm,B4⟩
theorem rcheck_fm (f:Fm) (y:FQ) (w:World) (hQ:QAt w (f,y)):
  Calls Tryz.prog 18 #[.agg #[.int .i64 f.k,.string f.nm,.int .i64 f.op,y.v,y.t,.int .i64 f.lo,.int .i64 f.hi,.bool f.opn,y.s,y.r]] w fun e w'=>e=.returned (.int .i64 (chkF f))∧Below w.heap.size w w':=by
 have HQ:Hid (QAt w (f,y)):=hQ
 have cF:Hid (∀ (W:World) (q:Nat),Below w.heap.size w W→w.heap.size≤q→WK W q 0 0 0→Calls Tryz.prog 37 #[.pointer (some ⟨q,0,none⟩),.agg #[.int .i64 f.k,.string f.nm,.int .i64 f.op,y.v,y.t,.int .i64 f.lo,.int .i64 f.hi,.bool f.opn,y.s,y.r],.int .i64 1] W fun r w'=>(∃ v,r=.returned v)∧Hid (KeepT q W w'∧WQ w' q (frun 1 (0,0) f))):=fun W q hW hq h=>rformula_walk w q hq f y HQ.out W hW h
 have cW:Hid ((frun 1 (0,0) f).1=0→∀ W:World,Below w.heap.size w W→Calls Tryz.prog 38 #[.agg #[.int .i64 f.k,.string f.nm,.int .i64 f.op,y.v,y.t,.int .i64 f.lo,.int .i64 f.hi,.bool f.opn,y.s,y.r]] W fun e w'=>e=.returned (.bool (decide ((fre f).2≤8)))∧Below W.heap.size W w'):=fun h W hW=>rfew_any w _ f y W (Nat.lt_succ_self _) (run_good h).2 (run_good h).1 HQ.out hW
 have HC:Hid (chkF f=if (frun 1 (0,0) f).1=0 then (if 8<(fre f).2 then 30 else 0) else (frun 1 (0,0) f).1):=rfl
 obtain ⟨RR,eRR⟩:∃ R:Int×(Int×Int),Hid (frun 1 (0,0) f=R):=⟨_,rfl⟩
 rw [eRR.out] at cF cW HC
 obtain ⟨CK,eCK⟩:∃ C:Int,Hid (chkF f=C):=⟨_,rfl⟩
 rw [eCK.out] at HC ⊢
 obtain ⟨F2,eF2⟩:∃ n:Nat,Hid ((fre f).2=n):=⟨_,rfl⟩
 rw [eF2.out] at HC cW
 clear eRR eCK eF2
 obtain ⟨uv,ut,us,ur⟩:=y
 obtain ⟨h1,h2,h3,h4⟩:=hQ
 dsimp only at h1 h2 h3 h4 cF cW ⊢
 obtain ⟨-,pv,cv,rfl, -, -⟩:=h1
 obtain ⟨pt,ct,rfl, -⟩:=h2.form
 obtain ⟨ps,cs,rfl, -⟩:=h3.form
 obtain ⟨pr,cr,rfl, -⟩:=h4.form
 clear h2 h3 h4
 generalize f.vars.length=nv at*
 generalize f.terms.length=nt at*
 generalize f.subs.length=ns at*
 generalize f.rgx.length=nr at*
 generalize f.lo=lo at*
 generalize f.hi=fhi at*
 generalize f.nm=nm at*
 generalize f.opn=o at*
 generalize f.op=op at*
 generalize f.k=fk at*
 obtain ⟨w1,ew1⟩:∃ w1,w1=(w.alloc (.cells #[.int .i64 fk,.string nm,.int .i64 op,.slice pv nv cv,.slice pt nt ct,.int .i64 lo,.int .i64 fhi,.bool o,.slice ps ns cs,.slice pr nr cr] 29)).alloc (.cells #[.int .i64 0,.int .i64 0,.int .i64 0] 68):=⟨_,rfl⟩
 have X1:Hid (w1.heap[w.heap.size]? =some (.cells #[.int .i64 fk,.string nm,.int .i64 op,.slice pv nv cv,.slice pt nt ct,.int .i64 lo,.int .i64 fhi,.bool o,.slice ps ns cs,.slice pr nr cr] 29 (0,0))):=by rw [ew1];exact (Below.heap_alloc _ _ _ (by simp)).trans (heap_allocA w _)
 have K1:Hid (WK w1 (w.heap.size+1) 0 0 0):=by
  rw [ew1]
  have h:=heap_allocA (w.alloc (.cells #[.int .i64 fk,.string nm,.int .i64 op,.slice pv nv cv,.slice pt nt ct,.int .i64 lo,.int .i64 fhi,.bool o,.slice ps ns cs,.slice pr nr cr] 29)) (.cells #[.int .i64 0,.int .i64 0,.int .i64 0] 68)
  simp only [World.size_alloc] at h
  exact h
 have B1:Below w.heap.size w w1:=by rw [ew1];exact ((Below.refl _ _).alloc (Nat.le_refl _) _).alloc (by simp) _
 go_enter Tryz.func18,Tryz.ntmps18
 go_upto_region 2 with fail
 rw [← ew1]
 clear ew1
 obtain ⟨e0,e1,e2,e3,e4,e5,e6,e7,e8,e9⟩:=box10 X1.out
 go_wp2_with fail
 refine (cF.out w1 (w.heap.size+1) B1 (by omega) K1.out).mono ?_
 rintro r w2 ⟨⟨v2,rfl⟩,h2⟩
 obtain ⟨hK2,N,M,hW2,hNM⟩:=h2.out
 have HW2:Hid (WK w2 (w.heap.size+1) N M RR.1):=hW2
 have hsz1:w.heap.size<w1.heap.size:=blkL X1.out
 have X2:Hid (_):=(hK2.block w.heap.size hsz1 (by omega)).trans X1.out
 have B2:Below w.heap.size w w2:=B1.trans (hK2.below (by omega) (by have:=hW2.lt;have:=K1.out.lt;omega))
 clear h2 hK2 hW2 hNM cF K1 X1 B1 e0 e1 e2 e3 e4 e5 e6 e7 e8 e9 hsz1
 have y2:w2.cell? ⟨w.heap.size+1,2,none⟩=some (.int .i64 RR.1):=HW2.out.e
 obtain ⟨E,eE⟩:∃ E:Int,Hid (RR.1=E):=⟨_,rfl⟩
 rw [eE.out] at y2 cW HC
 clear HW2 eE
 by_cases hE:E=0
 case neg=>
  have hE':(E==0)=false:=by simpa using hE
  have hE'':(E != 0)=true:=by simpa using hE
  have hR:Hid (CK=E):=by have h:=HC.out;rw [if_neg hE] at h;exact h
  go_wp2
  go_ret
  exact ⟨retI hR.out.symm,B2⟩
 subst hE
 have CW:=cW.out rfl
 have CW:Hid (_):=CW
 have HC2:Hid (CK=if 8<F2 then 30 else 0):=by have h:=HC.out;rw [if_pos rfl] at h;exact h
 clear cW HC
 obtain ⟨e0,e1,e2,e3,e4,e5,e6,e7,e8,e9⟩:=box10 X2.out
 go_wp2_with fail
 refine (CW.out w2 B2).mono ?_
 rintro e w3 ⟨rfl,hb3⟩
 have B3:Below w.heap.size w w3:=B2.trans (hb3.mono B2.size)
 clear hb3 CW B2 X2 e0 e1 e2 e3 e4 e5 e6 e7 e8 e9 y2
 by_cases hF:F2≤8
 ·have eF:decide (F2≤8)=true:=decide_eq_true hF
  rw [eF]
  have hR:Hid (CK=0):=by have h:=HC2.out;rw [if_neg (by omega)] at h;exact h
  go_wp2
  go_ret
  exact ⟨retI hR.out.symm,B3⟩
 ·have eF:decide (F2≤8)=false:=decide_eq_false hF
  rw [eF]
  have hR:Hid (CK=30):=by have h:=HC2.out;rw [if_pos (by omega)] at h;exact h
  go_wp2
  go_ret
  exact ⟨retI hR.out.symm,B3⟩
theorem blk2a (w:World) (o1 o2:Obj):((w.alloc o1).alloc o2).heap[w.heap.size]? =some o1:=(Below.heap_alloc _ _ _ (by rw [alloc_size];omega)).trans (heap_allocA w o1)
theorem blk2b (w:World) (o1 o2:Obj):((w.alloc o1).alloc o2).heap[w.heap.size+1]? =some o2:=by
 have h:=heap_allocA (w.alloc o1) o2
 simpa using h
theorem blkC {w w':World} {b:Nat} {o:Obj} (h:w.heap[b]? =some o) (hb:Below w.heap.size w w'):w'.heap[b]? =some o:=(hb.block b (Array.getElem?_eq_some_iff.1 h).1).trans h
theorem blkLt {W:World} {B:Nat} {o:Obj} (h:W.heap[B]? =some o):B<W.heap.size:=(Array.getElem?_eq_some_iff.1 h).1
end Go.Proofs.YthodedagbbifbaaGreat
