/- What the claims of this seat share: base. -/
import Derived.Test.YthodedagbbifbaaGreatZ05
import Derived.Deep.CutBlock
import Derived.Deep.QuietTactic
set_option maxRecDepth 100000
set_option maxHeartbeats 16000000
namespace Go.Proofs.YthodedagbbifbaaGreat
open Go.RowKit LX Go.Shelf Go.Sort
set_option linter.unusedVariables false
theorem PtT.ifc {B:Nat} {w:World} {v:Value} {p:Pt} (h:PtT B w v p):∃ T x,v=.iface T x:=by cases h<;>exact ⟨_,_,rfl⟩
theorem al_self (h:Array Obj) (o:Obj):(h.push o)[h.size]? =some o:=by simp
theorem bdK {B b:Nat} {w w':World} (hb:Below B w w') (d:∃ cs z,w.heap[b]? =some (Obj.cells cs 48 z)) (h:b<B):∃ cs z,w'.heap[b]? =some (Obj.cells cs 48 z):=by
 obtain ⟨cs,z,e⟩:=d
 exact ⟨cs,z,(hb.block b h).trans e⟩
theorem nmsT_put {w:World} {B:Nat} {a b c d v:Value} {vs:List ByteArray} (h:NmsT w v vs) (hB:∃ cs z,w.heap[B]? =some (Obj.cells cs 48 z)):NmsT ((((w.setCell ⟨B,0,none⟩ a).setCell ⟨B,1,none⟩ b).setCell ⟨B,2,none⟩ c).setCell ⟨B,3,none⟩ d) v vs:=
 nmsT_heap h (by simp) (fun k cs z hk=>by
  have hne:k≠B:=by
   rintro rfl
   obtain ⟨cs',z',e⟩:=hB
   rw [hk] at e
   simp at e
  rw [Below.heap_setCell _ _ _ _ hne,Below.heap_setCell _ _ _ _ hne,Below.heap_setCell _ _ _ _ hne,Below.heap_setCell _ _ _ _ hne])
theorem bcK {B:Nat} {w w':World} {b o:Nat} {v:Value} (hb:Below B w w') (c:w.cell? ⟨b,o,none⟩=some v) (h:b<B):w'.cell? ⟨b,o,none⟩=some v:=(hb.cell (p:=⟨b,o,none⟩) h).trans c
theorem bzK {B:Nat} {w w':World} {b o:Nat} {v:Bool} (hb:Below B w w') (c:w.frozen? ⟨b,o,none⟩=v) (h:b<B):w'.frozen? ⟨b,o,none⟩=v:=(hb.frozen (p:=⟨b,o,none⟩) h).trans c
theorem spart_any (w0:World) (f:Fm) (q:FQ) (e0:Env) (M:Int) (pe:Option Addr) (w:World) (h2:f.k=4∨f.k=5∨f.k=6→1<f.terms.length) (hc:chkF f=0) (hM:0≤M) (hEB:EnvB M e0) (hMb:M+1099511627776*(nodF f:Int)≤4611686018427387904) (hq:QAt w0 (f,q)) (hw:Below w0.heap.size w0 w) (hE:EnvAt w pe e0)
  (HPs:∀ W:World,Below w0.heap.size w0 W→EnvAt W pe e0→Calls Tryz.prog 49 #[.pointer pe,.agg #[.int .i64 f.k,.string f.nm,.int .i64 f.op,q.v,q.t,.int .i64 f.lo,.int .i64 f.hi,.bool f.opn,q.s,q.r]] W fun r w'=>∃ v,r=.returned v∧PtLT w0.heap.size w' v (ptsE f e0)∧Below W.heap.size W w'):
  Calls Tryz.prog 27 #[.pointer pe,.agg #[.int .i64 f.k,.string f.nm,.int .i64 f.op,q.v,q.t,.int .i64 f.lo,.int .i64 f.hi,.bool f.opn,q.s,q.r]] w fun r w'=>∃ v,r=.returned v∧PtT w0.heap.size w' v (prtF f e0)∧Below w.heap.size w w':=by
 obtain ⟨hwf,hn256, -, -⟩:=(chk_iff f).1 hc
 obtain ⟨ps,eps⟩:∃ ps,Hid (ptsE f e0=ps):=⟨_,rfl⟩
 have hN:PtsN f ps:=by rw [← eps.out];exact pts_n hwf e0
 have hB:∀ t∈f.terms,TmB t:=by
  have h0:=nodF_eq f
  have h1:=hwf
  rw [wfF_eq] at h1
  exact tm_bnd h1.2.1 (by omega)
 have hO:PtB (ptN ps 1):=by rw [← eps.out];exact ptN_B (ptB_all hwf (by omega) e0) 1
 have hTot:tot (fun p=>p.about.vars) ps≤9*nodF f∧tot (fun p=>p.about.bare) ps≤nodF f:=by rw [← eps.out];exact pts_tot hwf e0
 have hF:0≤farP ps∧farP ps≤4611686018427387904:=by rw [← eps.out];exact far_pts hwf hM hEB hMb
 have hfe:fmE f=0:=by rw [wfF_eq] at hwf;exact hwf.1
 have hvs:=varF_sz hwf
 have lBar:(barIn f ps).length≤1000000:=by have:=bar_len f ps;omega
 have hpr:prtF f e0=mkP e0 f ps:=by rw [prtF_pts,eps.out]
 rw [hpr]
 rw [eps.out] at HPs
 have cP:Hid (∀ W:World,Below w.heap.size w W→Calls Tryz.prog 49 #[.pointer pe,.agg #[.int .i64 f.k,.string f.nm,.int .i64 f.op,q.v,q.t,.int .i64 f.lo,.int .i64 f.hi,.bool f.opn,q.s,q.r]] W fun r w'=>∃ v,r=.returned v∧PtLT w0.heap.size w' v ps∧Below W.heap.size W w'):=fun W hW=>HPs W (hw.trans (hW.mono hw.size)) (hE.bel hW)
 have hqw:∀ W:World,Below w.heap.size w W→QAt W (f,q):=fun W hW=>hq.below (hw.trans (hW.mono hw.size))
 have cF:Hid (∀ W:World,Below w.heap.size w W→Calls Tryz.prog 50 #[.agg #[.int .i64 f.k,.string f.nm,.int .i64 f.op,q.v,q.t,.int .i64 f.lo,.int .i64 f.hi,.bool f.opn,q.s,q.r]] W fun r w'=>∃ v,r=.returned v∧OwnN W.heap.size v (varF f) w'∧Below W.heap.size W w'):=fun W hW=>free_fm f q W (hqw W hW) hvs
 have cA:Hid (∀ (W:World) (V:Value),Below w.heap.size w W→PtLst W V ps→Calls Tryz.prog 51 #[.agg #[.int .i64 f.k,.string f.nm,.int .i64 f.op,q.v,q.t,.int .i64 f.lo,.int .i64 f.hi,.bool f.opn,q.s,q.r],V] W fun r w'=>r=.returned (.bool (isAccP f ps))∧Below W.heap.size W w'):=fun W V hW h=>isAccepted_any f q ps V W (hqw W hW) h hN hB hO (by have:=hTot.1;unfold tot at this;omega)
 have cR:Hid (∀ (W:World) (V:Value),Below w.heap.size w W→PtLst W V ps→Calls Tryz.prog 52 #[.pointer pe,.agg #[.int .i64 f.k,.string f.nm,.int .i64 f.op,q.v,q.t,.int .i64 f.lo,.int .i64 f.hi,.bool f.opn,q.s,q.r],V] W fun r w'=>r=.returned (.int .i64 (rchIn e0 f ps))∧Below W.heap.size W w'):=fun W V hW h=>reachIn_any e0 pe f q ps V W (hE.bel hW) (hqw W hW) h (fun h=>hN.2.1 (by omega)) hF (fun h=>hi_rng hfe h)
 have cB:Hid (∀ (W:World) (V:Value),Below w.heap.size w W→PtLst W V ps→Calls Tryz.prog 53 #[.agg #[.int .i64 f.k,.string f.nm,.int .i64 f.op,q.v,q.t,.int .i64 f.lo,.int .i64 f.hi,.bool f.opn,q.s,q.r],V] W fun r w'=>∃ v,r=.returned v∧NmsT w' v (barIn f ps)∧Below W.heap.size W w'):=fun W V hW h=>bareIn_any f q ps V W (hqw W hW) h (fun h=>hN.2.1 (by omega)) (by have:=hTot.2;unfold tot at this;omega)
 have lV:(varF f).length≤1000000:=by have:=varF_len hwf;omega
 have hps0:=hN.1
 have hzw:=hw.size
 obtain ⟨⟨pv,cv,ev⟩,⟨pt,ct,et⟩,⟨ps_,cs,es⟩,⟨pr,cr,er⟩⟩:=sfm_forms hq
 rw [ev,et,es,er] at cP cF cA cR cB
 rw [ev,et,es,er]
 obtain ⟨A,eA⟩:∃ X,Hid (tmN f.terms 0=X):=⟨_,rfl⟩
 obtain ⟨C,eC⟩:∃ X,Hid (tmN f.terms 1=X):=⟨_,rfl⟩
 have HT:Hid (f.k=4∨f.k=5∨f.k=6→∃ b off u0 u1,pt=some ⟨b,off,none⟩∧1<f.terms.length∧b<w0.heap.size∧TmC w0 b off A u0∧TmC w0 b (off+7) C u1∧TmsAt w0 u0 A.subs∧TmsAt w0 u1 C.subs∧A.v.Fits∧C.v.Fits):=fun hk=>by
  have h2:=h2 hk
  obtain ⟨b,off,c,u0,u1,e,hbl,c0,c1,s0,s1,g0,g1, -, -⟩:=tms_two hq.2.1 h2
  have e':=et.symm.trans e
  simp only [Value.slice.injEq] at e'
  rw [eA.out] at c0 s0 g0
  rw [eC.out] at c1 s1 g1
  exact ⟨b,off,u0,u1,e'.1,h2,hbl,c0,c1,s0,s1,g0,g1⟩
 clear hwf hn256 hN hB hO hTot hF hfe hvs hpr HPs hqw hq hE hc hEB hMb eps ev et es er
 obtain ⟨VS,eVS⟩:∃ X,Hid (varF f=X):=⟨_,rfl⟩
 obtain ⟨AC,eAC⟩:∃ X,Hid (isAccP f ps=X):=⟨_,rfl⟩
 obtain ⟨RI,eRI⟩:∃ X,Hid (rchIn e0 f ps=X):=⟨_,rfl⟩
 obtain ⟨BS,eBS⟩:∃ X,Hid (barIn f ps=X):=⟨_,rfl⟩
 rw [eVS.out] at cF lV
 rw [eAC.out] at cA
 rw [eRI.out] at cR
 rw [eBS.out] at cB lBar
 have hMK:mkP e0 f ps=(if f.k=7 then .neg ⟨VS,AC,RI,BS⟩ (ptN ps 0) else if f.k=4∨f.k=5∨f.k=6 then .cmp ⟨VS,AC,RI,BS⟩ f.k A C else .fx ⟨VS,AC,RI,BS⟩):=by
  unfold mkP
  rw [eVS.out,eAC.out,eRI.out,eBS.out,eA.out,eC.out]
 obtain ⟨PM,ePM⟩:∃ PM,mkP e0 f ps=PM:=⟨_,rfl⟩
 rw [ePM] at hMK
 rw [ePM]
 have HPM:Hid (PM=(if f.k=7 then .neg ⟨VS,AC,RI,BS⟩ (ptN ps 0) else if f.k=4∨f.k=5∨f.k=6 then .cmp ⟨VS,AC,RI,BS⟩ f.k A C else .fx ⟨VS,AC,RI,BS⟩)):=hMK
 clear hMK eVS eAC eRI eBS ePM eA eC h2
 generalize f.vars.length=nv at*
 generalize f.terms.length=nt at*
 generalize f.subs.length=ns at*
 generalize f.rgx.length=nr at*
 generalize f.nm=nm at*
 generalize f.op=op at*
 generalize f.lo=lo at*
 generalize f.hi=hi at*
 generalize f.opn=o at*
 generalize f.k=k at*
 go_enter Tryz.func27,Tryz.ntmps27
 go_wp2_with fail
 refine (cP.out _ (by go_grown)).mono ?_
 rintro r1 w1 ⟨V,rfl,hL,hb1⟩
 have K1:Below w.heap.size w w1:=Below.trans (by go_grown) (hb1.mono (by simp))
 have gb:∀ o,w1.cell? ⟨w.heap.size,o,none⟩=_:=fun o=>hb1.cell (p:=⟨w.heap.size,o,none⟩) (by simp)
 have hl1:w.heap.size<w1.heap.size:=Nat.lt_of_lt_of_le (by simp) hb1.size
 have x0:w1.cell? ⟨w.heap.size,0,none⟩=some (.int .i64 k):=(gb 0).trans (by simp (maxDischargeDepth:=12) [go_sem])
 have x1:w1.cell? ⟨w.heap.size,1,none⟩=some (.string nm):=(gb 1).trans (by simp (maxDischargeDepth:=12) [go_sem])
 have x2:w1.cell? ⟨w.heap.size,2,none⟩=some (.int .i64 op):=(gb 2).trans (by simp (maxDischargeDepth:=12) [go_sem])
 have x3:w1.cell? ⟨w.heap.size,3,none⟩=some (.slice pv nv cv):=(gb 3).trans (by simp (maxDischargeDepth:=12) [go_sem])
 have x4:w1.cell? ⟨w.heap.size,4,none⟩=some (.slice pt nt ct):=(gb 4).trans (by simp (maxDischargeDepth:=12) [go_sem])
 have x5:w1.cell? ⟨w.heap.size,5,none⟩=some (.int .i64 lo):=(gb 5).trans (by simp (maxDischargeDepth:=12) [go_sem])
 have x6:w1.cell? ⟨w.heap.size,6,none⟩=some (.int .i64 hi):=(gb 6).trans (by simp (maxDischargeDepth:=12) [go_sem])
 have x7:w1.cell? ⟨w.heap.size,7,none⟩=some (.bool o):=(gb 7).trans (by simp (maxDischargeDepth:=12) [go_sem])
 have x8:w1.cell? ⟨w.heap.size,8,none⟩=some (.slice ps_ ns cs):=(gb 8).trans (by simp (maxDischargeDepth:=12) [go_sem])
 have x9:w1.cell? ⟨w.heap.size,9,none⟩=some (.slice pr nr cr):=(gb 9).trans (by simp (maxDischargeDepth:=12) [go_sem])
 have HLT:Hid (PtLT w0.heap.size w1 V ps):=hL
 obtain ⟨pL,cL,rfl, -⟩:=hL
 clear hb1 gb cP
 go_upto_region 2 with fail
 refine wp_world ?_
 intro W0 hW0
 have b10:Below w1.heap.size w1 W0:=by rw [hW0];go_grown
 clear hW0
 have KW0:Below w.heap.size w W0:=K1.trans (b10.mono K1.size)
 have LW0:w.heap.size<W0.heap.size:=Nat.lt_of_lt_of_le hl1 b10.size
 have q0:=(b10.cell (p:=⟨w.heap.size,0,none⟩) hl1).trans x0
 have q1:=(b10.cell (p:=⟨w.heap.size,1,none⟩) hl1).trans x1
 have q2:=(b10.cell (p:=⟨w.heap.size,2,none⟩) hl1).trans x2
 have q3:=(b10.cell (p:=⟨w.heap.size,3,none⟩) hl1).trans x3
 have q4:=(b10.cell (p:=⟨w.heap.size,4,none⟩) hl1).trans x4
 have q5:=(b10.cell (p:=⟨w.heap.size,5,none⟩) hl1).trans x5
 have q6:=(b10.cell (p:=⟨w.heap.size,6,none⟩) hl1).trans x6
 have q7:=(b10.cell (p:=⟨w.heap.size,7,none⟩) hl1).trans x7
 have q8:=(b10.cell (p:=⟨w.heap.size,8,none⟩) hl1).trans x8
 have q9:=(b10.cell (p:=⟨w.heap.size,9,none⟩) hl1).trans x9
 have HL0:Hid (PtLT w0.heap.size W0 (.slice pL ps.length cL) ps):=HLT.out.bel b10
 have zW0:=KW0.size
 clear x0 x1 x2 x3 x4 x5 x6 x7 x8 x9 HLT b10 hl1
 obtain ⟨np,enp⟩:∃ np:Nat,Hid (ps.length=np):=⟨_,rfl⟩
 rw [enp.out] at HL0 ⊢
 go_cut [6] (fun s6 wx=>∃ B6 uv ub,s6=.pointer (some ⟨B6,0,none⟩)∧B6<wx.heap.size∧wx.cell? ⟨B6,0,none⟩=some uv∧wx.cell? ⟨B6,1,none⟩=some (.bool AC)∧wx.cell? ⟨B6,2,none⟩=some (.int .i64 RI)∧wx.cell? ⟨B6,3,none⟩=some ub∧NmsT wx uv VS∧NmsT wx ub BS∧Below W0.heap.size W0 wx)
 case first=>
  go_region_held3 (fun W=>W.cell? ⟨w.heap.size,0,none⟩=some (.int .i64 k)∧W.cell? ⟨w.heap.size,1,none⟩=some (.string nm)∧W.cell? ⟨w.heap.size,2,none⟩=some (.int .i64 op)∧W.cell? ⟨w.heap.size,3,none⟩=some (.slice pv nv cv)∧W.cell? ⟨w.heap.size,4,none⟩=some (.slice pt nt ct)∧W.cell? ⟨w.heap.size,5,none⟩=some (.int .i64 lo)∧W.cell? ⟨w.heap.size,6,none⟩=some (.int .i64 hi)∧W.cell? ⟨w.heap.size,7,none⟩=some (.bool o)∧W.cell? ⟨w.heap.size,8,none⟩=some (.slice ps_ ns cs)∧W.cell? ⟨w.heap.size,9,none⟩=some (.slice pr nr cr)) (exact ⟨bcl (n:=W0.heap.size) (by go_grown) q0 LW0,bcl (n:=W0.heap.size) (by go_grown) q1 LW0,bcl (n:=W0.heap.size) (by go_grown) q2 LW0,bcl (n:=W0.heap.size) (by go_grown) q3 LW0,bcl (n:=W0.heap.size) (by go_grown) q4 LW0,bcl (n:=W0.heap.size) (by go_grown) q5 LW0,bcl (n:=W0.heap.size) (by go_grown) q6 LW0,bcl (n:=W0.heap.size) (by go_grown) q7 LW0,bcl (n:=W0.heap.size) (by go_grown) q8 LW0,bcl (n:=W0.heap.size) (by go_grown) q9 LW0⟩) (first
    | (go_at_call 50;refine (cF.out _ (KW0.trans (Below.mono (B:=W0.heap.size) (by go_grown) zW0))).mono ?_;rintro e_ v1 ⟨u1,rfl,hO1,hb1⟩;have hN1:=hO1.nmsT (by omega);obtain ⟨p1,c1_,rfl, -⟩:=hO1.cap;obtain ⟨hX1,hn1⟩:=bgX (n:=W0.heap.size) (W0:=W0) (by go_grown) (by go_size) hb1;have K1_:=hb1.size;have lw1:w.heap.size<v1.heap.size:=Nat.lt_of_lt_of_le LW0 hX1.size;first
      | (replace d0:=bdK hb1 d0 hBlt;replace c0:=bcK hb1 c0 hBlt;replace c1:=bcK hb1 c1 hBlt;replace c2:=bcK hb1 c2 hBlt;replace c3:=bcK hb1 c3 hBlt;replace z0:=bzK hb1 z0 hBlt;replace z1:=bzK hb1 z1 hBlt;replace z2:=bzK hb1 z2 hBlt;replace z3:=bzK hb1 z3 hBlt;replace hBlt:=Nat.lt_of_lt_of_le hBlt hb1.size)
      | (have hty:Below _ (World.drew (World.alloc _ _)) v1:=hb1;have d0:∃ cs z,v1.heap[W0.heap.size]? =some (Obj.cells cs 48 z):=⟨_,_,(hb1.block W0.heap.size (by simp)).trans (al_self W0.heap _)⟩;have c0:v1.cell? ⟨W0.heap.size,0,none⟩=some (Value.slice none 0 0):=(hb1.cell (p:=⟨W0.heap.size,0,none⟩) (by simp)).trans (by simp (maxDischargeDepth:=12) [go_sem]);have c1:v1.cell? ⟨W0.heap.size,1,none⟩=some (Value.bool false):=(hb1.cell (p:=⟨W0.heap.size,1,none⟩) (by simp)).trans (by simp (maxDischargeDepth:=12) [go_sem]);have c2:v1.cell? ⟨W0.heap.size,2,none⟩=some (Value.int .i64 0):=(hb1.cell (p:=⟨W0.heap.size,2,none⟩) (by simp)).trans (by simp (maxDischargeDepth:=12) [go_sem]);have c3:v1.cell? ⟨W0.heap.size,3,none⟩=some (Value.slice none 0 0):=(hb1.cell (p:=⟨W0.heap.size,3,none⟩) (by simp)).trans (by simp (maxDischargeDepth:=12) [go_sem]);have z0:v1.frozen? ⟨W0.heap.size,0,none⟩=false:=(hb1.frozen (p:=⟨W0.heap.size,0,none⟩) (by simp)).trans (by simp (maxDischargeDepth:=12) [go_sem]);have z1:v1.frozen? ⟨W0.heap.size,1,none⟩=false:=(hb1.frozen (p:=⟨W0.heap.size,1,none⟩) (by simp)).trans (by simp (maxDischargeDepth:=12) [go_sem]);have z2:v1.frozen? ⟨W0.heap.size,2,none⟩=false:=(hb1.frozen (p:=⟨W0.heap.size,2,none⟩) (by simp)).trans (by simp (maxDischargeDepth:=12) [go_sem]);have z3:v1.frozen? ⟨W0.heap.size,3,none⟩=false:=(hb1.frozen (p:=⟨W0.heap.size,3,none⟩) (by simp)).trans (by simp (maxDischargeDepth:=12) [go_sem]);have hBlt:=Nat.lt_of_lt_of_le (show W0.heap.size<_ by simp) hb1.size)
      | (have hty:Below _ (World.alloc _ _) v1:=hb1;have d0:∃ cs z,v1.heap[W0.heap.size]? =some (Obj.cells cs 48 z):=⟨_,_,(hb1.block W0.heap.size (by simp)).trans (al_self W0.heap _)⟩;have c0:v1.cell? ⟨W0.heap.size,0,none⟩=some (Value.slice none 0 0):=(hb1.cell (p:=⟨W0.heap.size,0,none⟩) (by simp)).trans (by simp (maxDischargeDepth:=12) [go_sem]);have c1:v1.cell? ⟨W0.heap.size,1,none⟩=some (Value.bool false):=(hb1.cell (p:=⟨W0.heap.size,1,none⟩) (by simp)).trans (by simp (maxDischargeDepth:=12) [go_sem]);have c2:v1.cell? ⟨W0.heap.size,2,none⟩=some (Value.int .i64 0):=(hb1.cell (p:=⟨W0.heap.size,2,none⟩) (by simp)).trans (by simp (maxDischargeDepth:=12) [go_sem]);have c3:v1.cell? ⟨W0.heap.size,3,none⟩=some (Value.slice none 0 0):=(hb1.cell (p:=⟨W0.heap.size,3,none⟩) (by simp)).trans (by simp (maxDischargeDepth:=12) [go_sem]);have z0:v1.frozen? ⟨W0.heap.size,0,none⟩=false:=(hb1.frozen (p:=⟨W0.heap.size,0,none⟩) (by simp)).trans (by simp (maxDischargeDepth:=12) [go_sem]);have z1:v1.frozen? ⟨W0.heap.size,1,none⟩=false:=(hb1.frozen (p:=⟨W0.heap.size,1,none⟩) (by simp)).trans (by simp (maxDischargeDepth:=12) [go_sem]);have z2:v1.frozen? ⟨W0.heap.size,2,none⟩=false:=(hb1.frozen (p:=⟨W0.heap.size,2,none⟩) (by simp)).trans (by simp (maxDischargeDepth:=12) [go_sem]);have z3:v1.frozen? ⟨W0.heap.size,3,none⟩=false:=(hb1.frozen (p:=⟨W0.heap.size,3,none⟩) (by simp)).trans (by simp (maxDischargeDepth:=12) [go_sem]);have hBlt:=Nat.lt_of_lt_of_le (show W0.heap.size<_ by simp) hb1.size)
      | skip)
    | (go_at_call 51;refine (cA.out _ _ (KW0.trans (Below.mono (B:=W0.heap.size) (by go_grown) zW0)) (HL0.out.lst.below (by go_grown))).mono ?_;rintro e_ v2 ⟨rfl,hb2⟩;replace hN1:=hN1.below (bgX (n:=v1.heap.size) (W0:=v1) (by go_grown) (by go_size) hb2).1;obtain ⟨hX2,hn2⟩:=bgX (n:=W0.heap.size) (W0:=W0) (by go_grown) (by go_size) hb2;have K2_:=hb2.size;have lw2:w.heap.size<v2.heap.size:=Nat.lt_of_lt_of_le LW0 hX2.size;first
      | (replace d0:=bdK hb2 d0 hBlt;replace c0:=bcK hb2 c0 hBlt;replace c1:=bcK hb2 c1 hBlt;replace c2:=bcK hb2 c2 hBlt;replace c3:=bcK hb2 c3 hBlt;replace z0:=bzK hb2 z0 hBlt;replace z1:=bzK hb2 z1 hBlt;replace z2:=bzK hb2 z2 hBlt;replace z3:=bzK hb2 z3 hBlt;replace hBlt:=Nat.lt_of_lt_of_le hBlt hb2.size)
      | (have hty:Below _ (World.drew (World.alloc _ _)) v2:=hb2;have d0:∃ cs z,v2.heap[v1.heap.size]? =some (Obj.cells cs 48 z):=⟨_,_,(hb2.block v1.heap.size (by simp)).trans (al_self v1.heap _)⟩;have c0:v2.cell? ⟨v1.heap.size,0,none⟩=some (Value.slice none 0 0):=(hb2.cell (p:=⟨v1.heap.size,0,none⟩) (by simp)).trans (by simp (maxDischargeDepth:=12) [go_sem]);have c1:v2.cell? ⟨v1.heap.size,1,none⟩=some (Value.bool false):=(hb2.cell (p:=⟨v1.heap.size,1,none⟩) (by simp)).trans (by simp (maxDischargeDepth:=12) [go_sem]);have c2:v2.cell? ⟨v1.heap.size,2,none⟩=some (Value.int .i64 0):=(hb2.cell (p:=⟨v1.heap.size,2,none⟩) (by simp)).trans (by simp (maxDischargeDepth:=12) [go_sem]);have c3:v2.cell? ⟨v1.heap.size,3,none⟩=some (Value.slice none 0 0):=(hb2.cell (p:=⟨v1.heap.size,3,none⟩) (by simp)).trans (by simp (maxDischargeDepth:=12) [go_sem]);have z0:v2.frozen? ⟨v1.heap.size,0,none⟩=false:=(hb2.frozen (p:=⟨v1.heap.size,0,none⟩) (by simp)).trans (by simp (maxDischargeDepth:=12) [go_sem]);have z1:v2.frozen? ⟨v1.heap.size,1,none⟩=false:=(hb2.frozen (p:=⟨v1.heap.size,1,none⟩) (by simp)).trans (by simp (maxDischargeDepth:=12) [go_sem]);have z2:v2.frozen? ⟨v1.heap.size,2,none⟩=false:=(hb2.frozen (p:=⟨v1.heap.size,2,none⟩) (by simp)).trans (by simp (maxDischargeDepth:=12) [go_sem]);have z3:v2.frozen? ⟨v1.heap.size,3,none⟩=false:=(hb2.frozen (p:=⟨v1.heap.size,3,none⟩) (by simp)).trans (by simp (maxDischargeDepth:=12) [go_sem]);have hBlt:=Nat.lt_of_lt_of_le (show v1.heap.size<_ by simp) hb2.size)
      | (have hty:Below _ (World.alloc _ _) v2:=hb2;have d0:∃ cs z,v2.heap[v1.heap.size]? =some (Obj.cells cs 48 z):=⟨_,_,(hb2.block v1.heap.size (by simp)).trans (al_self v1.heap _)⟩;have c0:v2.cell? ⟨v1.heap.size,0,none⟩=some (Value.slice none 0 0):=(hb2.cell (p:=⟨v1.heap.size,0,none⟩) (by simp)).trans (by simp (maxDischargeDepth:=12) [go_sem]);have c1:v2.cell? ⟨v1.heap.size,1,none⟩=some (Value.bool false):=(hb2.cell (p:=⟨v1.heap.size,1,none⟩) (by simp)).trans (by simp (maxDischargeDepth:=12) [go_sem]);have c2:v2.cell? ⟨v1.heap.size,2,none⟩=some (Value.int .i64 0):=(hb2.cell (p:=⟨v1.heap.size,2,none⟩) (by simp)).trans (by simp (maxDischargeDepth:=12) [go_sem]);have c3:v2.cell? ⟨v1.heap.size,3,none⟩=some (Value.slice none 0 0):=(hb2.cell (p:=⟨v1.heap.size,3,none⟩) (by simp)).trans (by simp (maxDischargeDepth:=12) [go_sem]);have z0:v2.frozen? ⟨v1.heap.size,0,none⟩=false:=(hb2.frozen (p:=⟨v1.heap.size,0,none⟩) (by simp)).trans (by simp (maxDischargeDepth:=12) [go_sem]);have z1:v2.frozen? ⟨v1.heap.size,1,none⟩=false:=(hb2.frozen (p:=⟨v1.heap.size,1,none⟩) (by simp)).trans (by simp (maxDischargeDepth:=12) [go_sem]);have z2:v2.frozen? ⟨v1.heap.size,2,none⟩=false:=(hb2.frozen (p:=⟨v1.heap.size,2,none⟩) (by simp)).trans (by simp (maxDischargeDepth:=12) [go_sem]);have z3:v2.frozen? ⟨v1.heap.size,3,none⟩=false:=(hb2.frozen (p:=⟨v1.heap.size,3,none⟩) (by simp)).trans (by simp (maxDischargeDepth:=12) [go_sem]);have hBlt:=Nat.lt_of_lt_of_le (show v1.heap.size<_ by simp) hb2.size)
      | skip)
    | (go_at_call 52;refine (cR.out _ _ (KW0.trans (Below.mono (B:=W0.heap.size) (by go_grown) zW0)) (HL0.out.lst.below (by go_grown))).mono ?_;rintro e_ v3 ⟨rfl,hb3⟩;replace hN1:=hN1.below (bgX (n:=v2.heap.size) (W0:=v2) (by go_grown) (by go_size) hb3).1;obtain ⟨hX3,hn3⟩:=bgX (n:=W0.heap.size) (W0:=W0) (by go_grown) (by go_size) hb3;have K3_:=hb3.size;have lw3:w.heap.size<v3.heap.size:=Nat.lt_of_lt_of_le LW0 hX3.size;first
      | (replace d0:=bdK hb3 d0 hBlt;replace c0:=bcK hb3 c0 hBlt;replace c1:=bcK hb3 c1 hBlt;replace c2:=bcK hb3 c2 hBlt;replace c3:=bcK hb3 c3 hBlt;replace z0:=bzK hb3 z0 hBlt;replace z1:=bzK hb3 z1 hBlt;replace z2:=bzK hb3 z2 hBlt;replace z3:=bzK hb3 z3 hBlt;replace hBlt:=Nat.lt_of_lt_of_le hBlt hb3.size)
      | (have hty:Below _ (World.drew (World.alloc _ _)) v3:=hb3;have d0:∃ cs z,v3.heap[v2.heap.size]? =some (Obj.cells cs 48 z):=⟨_,_,(hb3.block v2.heap.size (by simp)).trans (al_self v2.heap _)⟩;have c0:v3.cell? ⟨v2.heap.size,0,none⟩=some (Value.slice none 0 0):=(hb3.cell (p:=⟨v2.heap.size,0,none⟩) (by simp)).trans (by simp (maxDischargeDepth:=12) [go_sem]);have c1:v3.cell? ⟨v2.heap.size,1,none⟩=some (Value.bool false):=(hb3.cell (p:=⟨v2.heap.size,1,none⟩) (by simp)).trans (by simp (maxDischargeDepth:=12) [go_sem]);have c2:v3.cell? ⟨v2.heap.size,2,none⟩=some (Value.int .i64 0):=(hb3.cell (p:=⟨v2.heap.size,2,none⟩) (by simp)).trans (by simp (maxDischargeDepth:=12) [go_sem]);have c3:v3.cell? ⟨v2.heap.size,3,none⟩=some (Value.slice none 0 0):=(hb3.cell (p:=⟨v2.heap.size,3,none⟩) (by simp)).trans (by simp (maxDischargeDepth:=12) [go_sem]);have z0:v3.frozen? ⟨v2.heap.size,0,none⟩=false:=(hb3.frozen (p:=⟨v2.heap.size,0,none⟩) (by simp)).trans (by simp (maxDischargeDepth:=12) [go_sem]);have z1:v3.frozen? ⟨v2.heap.size,1,none⟩=false:=(hb3.frozen (p:=⟨v2.heap.size,1,none⟩) (by simp)).trans (by simp (maxDischargeDepth:=12) [go_sem]);have z2:v3.frozen? ⟨v2.heap.size,2,none⟩=false:=(hb3.frozen (p:=⟨v2.heap.size,2,none⟩) (by simp)).trans (by simp (maxDischargeDepth:=12) [go_sem]);have z3:v3.frozen? ⟨v2.heap.size,3,none⟩=false:=(hb3.frozen (p:=⟨v2.heap.size,3,none⟩) (by simp)).trans (by simp (maxDischargeDepth:=12) [go_sem]);have hBlt:=Nat.lt_of_lt_of_le (show v2.heap.size<_ by simp) hb3.size)
      | (have hty:Below _ (World.alloc _ _) v3:=hb3;have d0:∃ cs z,v3.heap[v2.heap.size]? =some (Obj.cells cs 48 z):=⟨_,_,(hb3.block v2.heap.size (by simp)).trans (al_self v2.heap _)⟩;have c0:v3.cell? ⟨v2.heap.size,0,none⟩=some (Value.slice none 0 0):=(hb3.cell (p:=⟨v2.heap.size,0,none⟩) (by simp)).trans (by simp (maxDischargeDepth:=12) [go_sem]);have c1:v3.cell? ⟨v2.heap.size,1,none⟩=some (Value.bool false):=(hb3.cell (p:=⟨v2.heap.size,1,none⟩) (by simp)).trans (by simp (maxDischargeDepth:=12) [go_sem]);have c2:v3.cell? ⟨v2.heap.size,2,none⟩=some (Value.int .i64 0):=(hb3.cell (p:=⟨v2.heap.size,2,none⟩) (by simp)).trans (by simp (maxDischargeDepth:=12) [go_sem]);have c3:v3.cell? ⟨v2.heap.size,3,none⟩=some (Value.slice none 0 0):=(hb3.cell (p:=⟨v2.heap.size,3,none⟩) (by simp)).trans (by simp (maxDischargeDepth:=12) [go_sem]);have z0:v3.frozen? ⟨v2.heap.size,0,none⟩=false:=(hb3.frozen (p:=⟨v2.heap.size,0,none⟩) (by simp)).trans (by simp (maxDischargeDepth:=12) [go_sem]);have z1:v3.frozen? ⟨v2.heap.size,1,none⟩=false:=(hb3.frozen (p:=⟨v2.heap.size,1,none⟩) (by simp)).trans (by simp (maxDischargeDepth:=12) [go_sem]);have z2:v3.frozen? ⟨v2.heap.size,2,none⟩=false:=(hb3.frozen (p:=⟨v2.heap.size,2,none⟩) (by simp)).trans (by simp (maxDischargeDepth:=12) [go_sem]);have z3:v3.frozen? ⟨v2.heap.size,3,none⟩=false:=(hb3.frozen (p:=⟨v2.heap.size,3,none⟩) (by simp)).trans (by simp (maxDischargeDepth:=12) [go_sem]);have hBlt:=Nat.lt_of_lt_of_le (show v2.heap.size<_ by simp) hb3.size)
      | skip)
    | (go_at_call 53;refine (cB.out _ _ (KW0.trans (Below.mono (B:=W0.heap.size) (by go_grown) zW0)) (HL0.out.lst.below (by go_grown))).mono ?_;rintro e_ v4 ⟨u4,rfl,hN4,hb4⟩;obtain ⟨p4,c4_,rfl, -⟩:=hN4.1.form;replace hN1:=hN1.below (bgX (n:=v3.heap.size) (W0:=v3) (by go_grown) (by go_size) hb4).1;obtain ⟨hX4,hn4⟩:=bgX (n:=W0.heap.size) (W0:=W0) (by go_grown) (by go_size) hb4;have K4_:=hb4.size;have lw4:w.heap.size<v4.heap.size:=Nat.lt_of_lt_of_le LW0 hX4.size;first
      | (replace d0:=bdK hb4 d0 hBlt;replace c0:=bcK hb4 c0 hBlt;replace c1:=bcK hb4 c1 hBlt;replace c2:=bcK hb4 c2 hBlt;replace c3:=bcK hb4 c3 hBlt;replace z0:=bzK hb4 z0 hBlt;replace z1:=bzK hb4 z1 hBlt;replace z2:=bzK hb4 z2 hBlt;replace z3:=bzK hb4 z3 hBlt;replace hBlt:=Nat.lt_of_lt_of_le hBlt hb4.size)
      | (have hty:Below _ (World.drew (World.alloc _ _)) v4:=hb4;have d0:∃ cs z,v4.heap[v3.heap.size]? =some (Obj.cells cs 48 z):=⟨_,_,(hb4.block v3.heap.size (by simp)).trans (al_self v3.heap _)⟩;have c0:v4.cell? ⟨v3.heap.size,0,none⟩=some (Value.slice none 0 0):=(hb4.cell (p:=⟨v3.heap.size,0,none⟩) (by simp)).trans (by simp (maxDischargeDepth:=12) [go_sem]);have c1:v4.cell? ⟨v3.heap.size,1,none⟩=some (Value.bool false):=(hb4.cell (p:=⟨v3.heap.size,1,none⟩) (by simp)).trans (by simp (maxDischargeDepth:=12) [go_sem]);have c2:v4.cell? ⟨v3.heap.size,2,none⟩=some (Value.int .i64 0):=(hb4.cell (p:=⟨v3.heap.size,2,none⟩) (by simp)).trans (by simp (maxDischargeDepth:=12) [go_sem]);have c3:v4.cell? ⟨v3.heap.size,3,none⟩=some (Value.slice none 0 0):=(hb4.cell (p:=⟨v3.heap.size,3,none⟩) (by simp)).trans (by simp (maxDischargeDepth:=12) [go_sem]);have z0:v4.frozen? ⟨v3.heap.size,0,none⟩=false:=(hb4.frozen (p:=⟨v3.heap.size,0,none⟩) (by simp)).trans (by simp (maxDischargeDepth:=12) [go_sem]);have z1:v4.frozen? ⟨v3.heap.size,1,none⟩=false:=(hb4.frozen (p:=⟨v3.heap.size,1,none⟩) (by simp)).trans (by simp (maxDischargeDepth:=12) [go_sem]);have z2:v4.frozen? ⟨v3.heap.size,2,none⟩=false:=(hb4.frozen (p:=⟨v3.heap.size,2,none⟩) (by simp)).trans (by simp (maxDischargeDepth:=12) [go_sem]);have z3:v4.frozen? ⟨v3.heap.size,3,none⟩=false:=(hb4.frozen (p:=⟨v3.heap.size,3,none⟩) (by simp)).trans (by simp (maxDischargeDepth:=12) [go_sem]);have hBlt:=Nat.lt_of_lt_of_le (show v3.heap.size<_ by simp) hb4.size)
      | (have hty:Below _ (World.alloc _ _) v4:=hb4;have d0:∃ cs z,v4.heap[v3.heap.size]? =some (Obj.cells cs 48 z):=⟨_,_,(hb4.block v3.heap.size (by simp)).trans (al_self v3.heap _)⟩;have c0:v4.cell? ⟨v3.heap.size,0,none⟩=some (Value.slice none 0 0):=(hb4.cell (p:=⟨v3.heap.size,0,none⟩) (by simp)).trans (by simp (maxDischargeDepth:=12) [go_sem]);have c1:v4.cell? ⟨v3.heap.size,1,none⟩=some (Value.bool false):=(hb4.cell (p:=⟨v3.heap.size,1,none⟩) (by simp)).trans (by simp (maxDischargeDepth:=12) [go_sem]);have c2:v4.cell? ⟨v3.heap.size,2,none⟩=some (Value.int .i64 0):=(hb4.cell (p:=⟨v3.heap.size,2,none⟩) (by simp)).trans (by simp (maxDischargeDepth:=12) [go_sem]);have c3:v4.cell? ⟨v3.heap.size,3,none⟩=some (Value.slice none 0 0):=(hb4.cell (p:=⟨v3.heap.size,3,none⟩) (by simp)).trans (by simp (maxDischargeDepth:=12) [go_sem]);have z0:v4.frozen? ⟨v3.heap.size,0,none⟩=false:=(hb4.frozen (p:=⟨v3.heap.size,0,none⟩) (by simp)).trans (by simp (maxDischargeDepth:=12) [go_sem]);have z1:v4.frozen? ⟨v3.heap.size,1,none⟩=false:=(hb4.frozen (p:=⟨v3.heap.size,1,none⟩) (by simp)).trans (by simp (maxDischargeDepth:=12) [go_sem]);have z2:v4.frozen? ⟨v3.heap.size,2,none⟩=false:=(hb4.frozen (p:=⟨v3.heap.size,2,none⟩) (by simp)).trans (by simp (maxDischargeDepth:=12) [go_sem]);have z3:v4.frozen? ⟨v3.heap.size,3,none⟩=false:=(hb4.frozen (p:=⟨v3.heap.size,3,none⟩) (by simp)).trans (by simp (maxDischargeDepth:=12) [go_sem]);have hBlt:=Nat.lt_of_lt_of_le (show v3.heap.size<_ by simp) hb4.size)
      | skip))
  all_goals
   go_wp2_with fail
   go_meet
   first
    | (refine ⟨_,_,_,rfl,by simp,by simp (maxDischargeDepth:=12) [go_sem],by simp (maxDischargeDepth:=12) [go_sem],by simp (maxDischargeDepth:=12) [go_sem],by simp (maxDischargeDepth:=12) [go_sem],hN1.below (by go_grown),hN4.below (by go_grown), ?_⟩;go_grown;done)
    | (refine ⟨_,.slice p1 VS.length c1_,.slice p4 BS.length c4_,rfl,by simpa using hBlt,by simp (maxDischargeDepth:=12) [go_sem,c0],by simp (maxDischargeDepth:=12) [go_sem,c1],by simp (maxDischargeDepth:=12) [go_sem,c2],by simp (maxDischargeDepth:=12) [go_sem,c3],nmsT_put hN1 d0,nmsT_put hN4 d0, ?_⟩;go_grown;done)
 case rest=>
 obtain ⟨B6,uv,ub,rfl,l6,f0,f1,f2,f3,hV,hBr,KX⟩:=hcut
 rename_i wc
 by_cases h7:k=7
 case pos=>
  have HQ:Hid (PM=.neg ⟨VS,AC,RI,BS⟩ (ptN ps 0)):=by show _=_;rw [HPM.out,if_pos h7]
  clear HPM
  have y0:=(KX.cell (p:=⟨w.heap.size,0,none⟩) LW0).trans q0
  have KXw:=KW0.trans (Below.mono (B':=w.heap.size) KX zW0)
  have hp0:0<ps.length:=hps0 (Or.inl h7)
  have hn0:0<np:=by rw [← enp.out];exact hp0
  obtain ⟨pw,cw,eV,hcap,h63,hget⟩:=HL0.out.bel KX
  obtain ⟨b,off,u,ep,hb,hcell,hpt⟩:=hget 0 hp0
  simp only [Value.slice.injEq] at eV
  obtain ⟨eV1,eV2,eV3⟩:=eV
  have epL:pL=some ⟨b,off,none⟩:=eV1.trans ep
  have hPn:Hid (PtT w0.heap.size wc u (ptN ps 0)):=by
   show PtT _ _ _ _
   rw [ptN_get hp0]
   exact hpt
  have hbl:b<wc.heap.size:=hb
  have hcell':wc.cell? ⟨b,off,none⟩=some u:=hcell
  have hn0':(0:Int)<np:=by omega
  obtain ⟨T0,v0,eu⟩:∃ T0 v0,u=.iface T0 v0:=PtT.ifc hPn.out
  subst eu
  have e7:=h7
  clear q0 q1 q2 q3 q4 q5 q6 q7 q8 q9 cF cA cR cB HL0 KW0 KX K1 hget hpt hcell hb ep eV1 eV2 eV3 hcap h63 h7 hps0 HT
  subst epL
  subst e7
  go_upto_region 5 with fail
  go_region_held3 (fun W=>W.cell? ⟨B6,0,none⟩=some uv∧W.cell? ⟨B6,1,none⟩=some (.bool AC)∧W.cell? ⟨B6,2,none⟩=some (.int .i64 RI)∧W.cell? ⟨B6,3,none⟩=some ub∧W.cell? ⟨b,off,none⟩=some (.iface T0 v0)) (go_keep) (fail)
  all_goals
   go_wp2_with fail
   refine bodyPost_ret (by simp [results,Tryz.results27,go_sem];try rfl) rfl ?_
   exact ⟨_,rfl,by rw [HQ.out];exact PtT.neg (x:=⟨VS,AC,RI,BS⟩) (hV.below (by go_grown)) (hBr.below (by go_grown)) (hPn.out.bel (by go_grown)),by go_grown⟩
 case neg=>
 by_cases h4:k=4∨k=5∨k=6
 case pos=>
  have HQ:Hid (PM=.cmp ⟨VS,AC,RI,BS⟩ k A C):=by show _=_;rw [HPM.out,if_neg h7,if_pos h4]
  clear HPM h7
  have y0:=(KX.cell (p:=⟨w.heap.size,0,none⟩) LW0).trans q0
  have y4:=(KX.cell (p:=⟨w.heap.size,4,none⟩) LW0).trans q4
  have KXw:=KW0.trans (Below.mono (B':=w.heap.size) KX zW0)
  obtain ⟨b,off,u0,u1,ep,hn2,hbl,tA,tC,sA,sC,fA,fC⟩:=HT.out h4
  have KB:Below w0.heap.size w0 wc:=hw.trans (Below.mono KXw hzw)
  have hn0':(0:Int)<(nt:Int):=by omega
  have hn1':(1:Int)<(nt:Int):=by omega
  have hn0:0<nt:=by omega
  have hbc:b<wc.heap.size:=Nat.lt_of_lt_of_le hbl KB.size
  obtain ⟨pa,ca,eu0, -⟩:=sA.form
  obtain ⟨pb,cb,eu1, -⟩:=sC.form
  obtain ⟨a0,a1,a2,a3,a4,a5,a6⟩:=tA
  obtain ⟨e0,e1,e2,e3,e4,e5,e6⟩:=tC
  have ga0:=(KB.cell (p:=⟨b,off,none⟩) hbl).trans a0
  have ga1:=(KB.cell (p:=⟨b,off+1,none⟩) hbl).trans a1
  have ga2:=(KB.cell (p:=⟨b,off+2,none⟩) hbl).trans a2
  have ga3:=(KB.cell (p:=⟨b,off+3,none⟩) hbl).trans a3
  have ga4:=(KB.cell (p:=⟨b,off+4,none⟩) hbl).trans a4
  have ga5:=(KB.cell (p:=⟨b,off+5,none⟩) hbl).trans a5
  have ga6:=(KB.cell (p:=⟨b,off+6,none⟩) hbl).trans a6
  have ge0:=(KB.cell (p:=⟨b,off+7,none⟩) hbl).trans e0
  have ge1:=(KB.cell (p:=⟨b,off+7+1,none⟩) hbl).trans e1
  have ge2:=(KB.cell (p:=⟨b,off+7+2,none⟩) hbl).trans e2
  have ge3:=(KB.cell (p:=⟨b,off+7+3,none⟩) hbl).trans e3
  have ge4:=(KB.cell (p:=⟨b,off+7+4,none⟩) hbl).trans e4
  have ge5:=(KB.cell (p:=⟨b,off+7+5,none⟩) hbl).trans e5
  have ge6:=(KB.cell (p:=⟨b,off+7+6,none⟩) hbl).trans e6
  clear a0 a1 a2 a3 a4 a5 a6 e0 e1 e2 e3 e4 e5 e6
  have hP:Hid (∀ W:World,Below wc.heap.size wc W→PtT w0.heap.size W (.iface 85 (.agg #[uv,.bool AC,.int .i64 RI,ub,.int .i64 k,.int .i64 A.k,.string A.nm,.int .i64 A.v.k,.int .i64 A.v.n,.int .i64 A.v.d,.string A.v.s,u0,.int .i64 C.k,.string C.nm,.int .i64 C.v.k,.int .i64 C.v.n,.int .i64 C.v.d,.string C.v.s,u1])) (.cmp ⟨VS,AC,RI,BS⟩ k A C)):=fun W hW=>PtT.cmp (x:=⟨VS,AC,RI,BS⟩) (hV.below hW) (hBr.below hW) (KB.trans (Below.mono hW KB.size)) (Nat.le_refl _) sA sC fA fC
  rw [eu0,eu1] at hP
  rw [eu0] at ga6
  rw [eu1] at ge6
  clear q0 q1 q2 q3 q4 q5 q6 q7 q8 q9 cF cA cR cB HL0 KW0 KX K1 HT sA sC fA fC hps0 hV hBr KB eu0 eu1
  subst ep
  generalize A.subs.length=na at*
  generalize C.subs.length=nb at*
  have HK:=h4
  clear h4
  rcases HK with e7 | e7 | e7
  ·subst e7
   go_upto_region 9 with fail
   go_region_held3 (fun W=>W.cell? ⟨B6,0,none⟩=some uv∧W.cell? ⟨B6,1,none⟩=some (.bool AC)∧W.cell? ⟨B6,2,none⟩=some (.int .i64 RI)∧W.cell? ⟨B6,3,none⟩=some ub∧W.cell? ⟨w.heap.size,0,none⟩=some (.int .i64 4)∧W.cell? ⟨w.heap.size,4,none⟩=some (.slice (some ⟨b,off,none⟩) nt ct)∧W.cell? ⟨b,off,none⟩=some (.int .i64 A.k)∧W.cell? ⟨b,off+1,none⟩=some (.string A.nm)∧W.cell? ⟨b,off+2,none⟩=some (.int .i64 A.v.k)∧W.cell? ⟨b,off+3,none⟩=some (.int .i64 A.v.n)∧W.cell? ⟨b,off+4,none⟩=some (.int .i64 A.v.d)∧W.cell? ⟨b,off+5,none⟩=some (.string A.v.s)∧W.cell? ⟨b,off+6,none⟩=some (.slice pa na ca)∧W.cell? ⟨b,off+7,none⟩=some (.int .i64 C.k)∧W.cell? ⟨b,off+7+1,none⟩=some (.string C.nm)∧W.cell? ⟨b,off+7+2,none⟩=some (.int .i64 C.v.k)∧W.cell? ⟨b,off+7+3,none⟩=some (.int .i64 C.v.n)∧W.cell? ⟨b,off+7+4,none⟩=some (.int .i64 C.v.d)∧W.cell? ⟨b,off+7+5,none⟩=some (.string C.v.s)∧W.cell? ⟨b,off+7+6,none⟩=some (.slice pb nb cb)) (go_keep) (fail)
   all_goals
    go_wp2_with fail
    refine bodyPost_ret (by simp [results,Tryz.results27,go_sem];try rfl) rfl ?_
    exact ⟨_,rfl,by rw [HQ.out];exact hP.out _ (by go_grown),by go_grown⟩
  ·subst e7
   go_upto_region 9 with fail
   go_region_held3 (fun W=>W.cell? ⟨B6,0,none⟩=some uv∧W.cell? ⟨B6,1,none⟩=some (.bool AC)∧W.cell? ⟨B6,2,none⟩=some (.int .i64 RI)∧W.cell? ⟨B6,3,none⟩=some ub∧W.cell? ⟨w.heap.size,0,none⟩=some (.int .i64 5)∧W.cell? ⟨w.heap.size,4,none⟩=some (.slice (some ⟨b,off,none⟩) nt ct)∧W.cell? ⟨b,off,none⟩=some (.int .i64 A.k)∧W.cell? ⟨b,off+1,none⟩=some (.string A.nm)∧W.cell? ⟨b,off+2,none⟩=some (.int .i64 A.v.k)∧W.cell? ⟨b,off+3,none⟩=some (.int .i64 A.v.n)∧W.cell? ⟨b,off+4,none⟩=some (.int .i64 A.v.d)∧W.cell? ⟨b,off+5,none⟩=some (.string A.v.s)∧W.cell? ⟨b,off+6,none⟩=some (.slice pa na ca)∧W.cell? ⟨b,off+7,none⟩=some (.int .i64 C.k)∧W.cell? ⟨b,off+7+1,none⟩=some (.string C.nm)∧W.cell? ⟨b,off+7+2,none⟩=some (.int .i64 C.v.k)∧W.cell? ⟨b,off+7+3,none⟩=some (.int .i64 C.v.n)∧W.cell? ⟨b,off+7+4,none⟩=some (.int .i64 C.v.d)∧W.cell? ⟨b,off+7+5,none⟩=some (.string C.v.s)∧W.cell? ⟨b,off+7+6,none⟩=some (.slice pb nb cb)) (go_keep) (fail)
   all_goals
    go_wp2_with fail
    refine bodyPost_ret (by simp [results,Tryz.results27,go_sem];try rfl) rfl ?_
    exact ⟨_,rfl,by rw [HQ.out];exact hP.out _ (by go_grown),by go_grown⟩
  ·subst e7
   go_upto_region 9 with fail
   go_region_held3 (fun W=>W.cell? ⟨B6,0,none⟩=some uv∧W.cell? ⟨B6,1,none⟩=some (.bool AC)∧W.cell? ⟨B6,2,none⟩=some (.int .i64 RI)∧W.cell? ⟨B6,3,none⟩=some ub∧W.cell? ⟨w.heap.size,0,none⟩=some (.int .i64 6)∧W.cell? ⟨w.heap.size,4,none⟩=some (.slice (some ⟨b,off,none⟩) nt ct)∧W.cell? ⟨b,off,none⟩=some (.int .i64 A.k)∧W.cell? ⟨b,off+1,none⟩=some (.string A.nm)∧W.cell? ⟨b,off+2,none⟩=some (.int .i64 A.v.k)∧W.cell? ⟨b,off+3,none⟩=some (.int .i64 A.v.n)∧W.cell? ⟨b,off+4,none⟩=some (.int .i64 A.v.d)∧W.cell? ⟨b,off+5,none⟩=some (.string A.v.s)∧W.cell? ⟨b,off+6,none⟩=some (.slice pa na ca)∧W.cell? ⟨b,off+7,none⟩=some (.int .i64 C.k)∧W.cell? ⟨b,off+7+1,none⟩=some (.string C.nm)∧W.cell? ⟨b,off+7+2,none⟩=some (.int .i64 C.v.k)∧W.cell? ⟨b,off+7+3,none⟩=some (.int .i64 C.v.n)∧W.cell? ⟨b,off+7+4,none⟩=some (.int .i64 C.v.d)∧W.cell? ⟨b,off+7+5,none⟩=some (.string C.v.s)∧W.cell? ⟨b,off+7+6,none⟩=some (.slice pb nb cb)) (go_keep) (fail)
   all_goals
    go_wp2_with fail
    refine bodyPost_ret (by simp [results,Tryz.results27,go_sem];try rfl) rfl ?_
    exact ⟨_,rfl,by rw [HQ.out];exact hP.out _ (by go_grown),by go_grown⟩
 case neg=>
  have HQ:Hid (PM=.fx ⟨VS,AC,RI,BS⟩):=by show _=_;rw [HPM.out,if_neg h7,if_neg h4]
  clear HPM
  have y0:=(KX.cell (p:=⟨w.heap.size,0,none⟩) LW0).trans q0
  have KXw:=KW0.trans (Below.mono (B':=w.heap.size) KX zW0)
  obtain ⟨n4,n5,n6⟩:k≠4∧k≠5∧k≠6:=by omega
  clear q0 q1 q2 q3 q4 q5 q6 q7 q8 q9 cF cA cR cB HL0 KW0 KX K1 HT
  go_wp2_with fail
  have hP:PtT w0.heap.size wc (.iface 48 (.agg #[uv,.bool AC,.int .i64 RI,ub])) (.fx ⟨VS,AC,RI,BS⟩):=PtT.fx (x:=⟨VS,AC,RI,BS⟩) hV hBr
  refine bodyPost_ret (by simp [results,Tryz.results27,go_sem];try rfl) rfl ?_
  exact ⟨_,rfl,by rw [HQ.out];exact hP,KXw⟩
theorem set4 {w:World} {b:Nat} {u0 u1 u2 u3:Value} (v0 v1 v2 v3:Value) (r0:w.cell? ⟨b,0,none⟩=some u0) (r1:w.cell? ⟨b,1,none⟩=some u1) (r2:w.cell? ⟨b,2,none⟩=some u2) (r3:w.cell? ⟨b,3,none⟩=some u3):
  ((((w.setCell ⟨b,0,none⟩ v0).setCell ⟨b,1,none⟩ v1).setCell ⟨b,2,none⟩ v2).setCell ⟨b,3,none⟩ v3).cell? ⟨b,0,none⟩=some v0∧
  ((((w.setCell ⟨b,0,none⟩ v0).setCell ⟨b,1,none⟩ v1).setCell ⟨b,2,none⟩ v2).setCell ⟨b,3,none⟩ v3).cell? ⟨b,1,none⟩=some v1∧
  ((((w.setCell ⟨b,0,none⟩ v0).setCell ⟨b,1,none⟩ v1).setCell ⟨b,2,none⟩ v2).setCell ⟨b,3,none⟩ v3).cell? ⟨b,2,none⟩=some v2∧
  ((((w.setCell ⟨b,0,none⟩ v0).setCell ⟨b,1,none⟩ v1).setCell ⟨b,2,none⟩ v2).setCell ⟨b,3,none⟩ v3).cell? ⟨b,3,none⟩=some v3:=by
 refine ⟨?_, ?_, ?_, ?_⟩
 ·simp (maxDischargeDepth:=12) [go_sem,r0]
 ·simp (maxDischargeDepth:=12) [go_sem,r1]
 ·simp (maxDischargeDepth:=12) [go_sem,r2]
 ·simp (maxDischargeDepth:=12) [go_sem,r3]
theorem regexOf_step (w0:World) (r:Rx) (ut0 us0:Value) (e:Env) (pe:Option Addr) (w:World) (hwf:wfR r) (hT0:FmsAt w0 ut0 r.test) (hS0:RxsAt w0 us0 r.subs) (hw:Below w0.heap.size w0 w) (hE:EnvAt w pe e) (hls:r.test.length≤1000000) (hlr:r.subs.length≤1000000) (hn:nodR r≤10000000)
  (HF:∀ i (hi:i<r.test.length) (qg:FQ) (W:World),QAt w0 (r.test[i],qg)→Below w0.heap.size w0 W→EnvAt W pe e→Calls Tryz.prog 27 #[.pointer pe,.agg #[.int .i64 r.test[i].k,.string r.test[i].nm,.int .i64 r.test[i].op,qg.v,qg.t,.int .i64 r.test[i].lo,.int .i64 r.test[i].hi,.bool r.test[i].opn,qg.s,qg.r]] W fun x w'=>∃ v,x=.returned v∧PtT w0.heap.size w' v (prtF r.test[i] e)∧Below W.heap.size W w')
  (HR:∀ i (hi:i<r.subs.length) (ut us:Value) (W:World),FmsAt w0 ut r.subs[i].test→RxsAt w0 us r.subs[i].subs→Below w0.heap.size w0 W→EnvAt W pe e→Calls Tryz.prog 81 #[.pointer pe,.agg #[.int .i64 r.subs[i].k,ut,us]] W fun x w'=>∃ v,x=.returned v∧PtT w0.heap.size w' (.iface 48 v) (.fx (prtR r.subs[i] e))∧Below W.heap.size W w'):
  Calls Tryz.prog 81 #[.pointer pe,.agg #[.int .i64 r.k,ut0,us0]] w fun x w'=>∃ v,x=.returned v∧PtT w0.heap.size w' (.iface 48 v) (.fx (prtR r e))∧Below w.heap.size w w':=by
 obtain ⟨i0,hi_,hz0,hz1,hz2⟩:=info_parts inPart
 have HFH:Hid (∀ i (hi:i<r.test.length) (qg:FQ) (W:World),QAt w0 (r.test[i],qg)→Below w0.heap.size w0 W→EnvAt W pe e→Calls Tryz.prog 27 #[.pointer pe,.agg #[.int .i64 r.test[i].k,.string r.test[i].nm,.int .i64 r.test[i].op,qg.v,qg.t,.int .i64 r.test[i].lo,.int .i64 r.test[i].hi,.bool r.test[i].opn,qg.s,qg.r]] W fun x w'=>∃ v,x=.returned v∧PtT w0.heap.size w' v (prtF r.test[i] e)∧Below W.heap.size W w'):=HF
 have HRH:Hid (∀ i (hi:i<r.subs.length) (ut us:Value) (W:World),FmsAt w0 ut r.subs[i].test→RxsAt w0 us r.subs[i].subs→Below w0.heap.size w0 W→EnvAt W pe e→Calls Tryz.prog 81 #[.pointer pe,.agg #[.int .i64 r.subs[i].k,ut,us]] W fun x w'=>∃ v,x=.returned v∧PtT w0.heap.size w' (.iface 48 v) (.fx (prtR r.subs[i] e))∧Below W.heap.size W w'):=HR
 have ePR:Hid (prtR r e=mkR r.k (prtFs r.test e++prtRs r.subs e)):=prtR_eq r e
 obtain ⟨X,eX⟩:∃ X,Hid (prtR r e=X):=⟨_,rfl⟩
 rw [eX.out]
 have htot:=hwf
 rw [wfR_eq] at htot
 have t1:=totF (e:=e) r.test (fun x hx=>(bnd _).1 x _ (Nat.le_refl _) (wfFs_in htot.2.1 x hx))
 have t2:=totR (e:=e) r.subs (fun x hx=>(bnd _).2 x _ (Nat.le_refl _) (wfRs_in htot.2.2 x hx))
 have hNR:=nodR_eq r
 obtain ⟨PP,ePP⟩:∃ PP,Hid (prtFs r.test e++prtRs r.subs e=PP):=⟨_,rfl⟩
 have hPP:Hid (PP=prtFs r.test e++prtRs r.subs e):=ePP.out.symm
 have hX:Hid (X=mkR r.k PP):=by have h:=eX.out.symm.trans ePR.out;rw [ePP.out] at h;exact h
 have HTV:Hid (tot (fun p=>p.about.vars) PP≤1000000000):=by show _≤_;rw [← ePP.out,tot_app];omega
 have HTB:Hid (tot (fun p=>p.about.bare) PP≤1000000000):=by show _≤_;rw [← ePP.out,tot_app];omega
 have HAlt:Hid (r.k=3→1<PP.length):=fun h3=>by
  rw [← ePP.out,List.length_append,prtFs_len,prtRs_len]
  have h:=htot.1
  unfold rxE at h
  rw [h3] at h
  simp at h
  omega
 obtain ⟨ps_,cs,es,hsl,hsc,HXS0⟩:=hT0.form
 obtain ⟨pr,cr,er,hrl,hrc,HXR0⟩:=hS0.form
 have HXS:Hid (∀ i (hi:i<r.test.length),∃ b off uv ut us ur,ps_=some ⟨b,off,none⟩∧b<w0.heap.size∧FmC w0 b (off+i*10) r.test[i] uv ut us ur∧NmsAt w0 uv r.test[i].vars∧TmsAt w0 ut r.test[i].terms∧FmsAt w0 us r.test[i].subs∧RxsAt w0 ur r.test[i].rgx):=HXS0
 have HXR:Hid (∀ i (hi:i<r.subs.length),∃ b off ut us,pr=some ⟨b,off,none⟩∧b<w0.heap.size∧RxC w0 b (off+i*3) r.subs[i] ut us∧FmsAt w0 ut r.subs[i].test∧RxsAt w0 us r.subs[i].subs):=HXR0
 subst es er
 have hzw0:=hw.size
 obtain ⟨ns,ens⟩:∃ ns:Nat,Hid (r.test.length=ns):=⟨_,rfl⟩
 obtain ⟨nr,enr⟩:∃ nr:Nat,Hid (r.subs.length=nr):=⟨_,rfl⟩
 rw [ens.out] at hls hsl hsc ⊢
 rw [enr.out] at hlr hrl hrc ⊢
 have HE:Hid (EnvAt w pe e):=hE
 clear hT0 hS0 HF HR ePR eX ePP HXS0 HXR0 hE htot t1 t2 hNR hwf hn
 generalize r.k=k at*
 go_enter Tryz.func81,Tryz.ntmps81
 go_upto_region 2 with fail
 refine wp_world ?_
 intro W0 hW0
 have KW0:Below w.heap.size w W0:=by rw [hW0];go_grown
 have LW0:w.heap.size+1<W0.heap.size:=by rw [hW0];first | (simp;done) | (simp;omega)
 have q0:W0.cell? ⟨w.heap.size,0,none⟩=some (.int .i64 k):=by rw [hW0];simp (maxDischargeDepth:=12) [go_sem]
 have q1:W0.cell? ⟨w.heap.size,1,none⟩=some (.slice ps_ ns cs):=by rw [hW0];simp (maxDischargeDepth:=12) [go_sem]
 have q2:W0.cell? ⟨w.heap.size,2,none⟩=some (.slice pr nr cr):=by rw [hW0];simp (maxDischargeDepth:=12) [go_sem]
 have HRES:Hid (W0.heap[w.heap.size+1]? =some (.cells #[.slice none 0 0,.bool false,.int .i64 0,.slice none 0 0] 48 (0,0))):=by
  have hh:∀ (o1 o2:Obj),((w.alloc o1).alloc o2).heap[w.heap.size+1]? =some o2:=fun o1 o2=>by
   have h:=heap_allocA (w.alloc o1) o2
   simpa using h
  rw [hW0]
  exact hh _ _
 have HEW:Hid (EnvAt W0 pe e):=HE.out.bel KW0
 clear hW0 HE
 have hzW:=KW0.size
 obtain ⟨A,eA⟩:∃ A,Hid (prtRs r.subs e=A):=⟨_,rfl⟩
 obtain ⟨D,eD⟩:∃ D,Hid (prtFs r.test e=D):=⟨_,rfl⟩
 rw [eD.out,eA.out] at hPP
 have lA:Hid (A.length=nr):=by show _=_;rw [← eA.out,prtRs_len,enr.out]
 have lD:Hid (D.length=ns):=by show _=_;rw [← eD.out,prtFs_len,ens.out]
 have gA:Hid (∀ i (hi:i<A.length) (hi':i<r.subs.length),A[i]=.fx (prtR r.subs[i] e)):=fun i hi hi'=>by
  have h:=eA.out
  rw [prtRs_map] at h
  subst h
  rw [List.getElem_map]
 have gD:Hid (∀ i (hi:i<D.length) (hi':i<r.test.length),D[i]=prtF r.test[i] e):=fun i hi hi'=>by
  have h:=eD.out
  rw [prtFs_map] at h
  subst h
  rw [List.getElem_map]
 clear eA eD
 go_wp2
 go_loopw [5,14] (fun v5 v14 wr=>∃ k:Nat,k≤ns∧v14=.int .i64 k∧Hid (RowP w0.heap.size W0.heap.size v5 (D.take k) wr)∧Below W0.heap.size W0 wr) (fun _ v14 _=>ns - (intOf v14).toNat)
 case atStart=>exact ⟨0,Nat.zero_le _,rfl,RowP.nil _ _ _,Below.refl _ _⟩
 case round=>
  obtain ⟨k1,hk1,rfl,hRo,hB⟩:=hrel
  have hzr:=hB.size
  by_cases hlt:k1<ns
  case pos=>
   have kx:k1<r.test.length:=by have:=ens.out;omega
   have ky:k1<D.length:=by have:=lD.out;omega
   have hlt':(k1:Int)<ns:=by omega
   obtain ⟨b,off,uv,ut,us,ur,hp,hb,FC,hV,hT,hS,hG⟩:=HXS.out k1 kx
   subst hp
   have hwr:Below w0.heap.size w0 wr:=(hw.trans (KW0.mono hzw0)).trans (hB.mono (by omega))
   obtain ⟨a0,a1,a2,a3,a4,a5,a6,a7,a8,a9⟩:=FC.below hwr hb
   have hQ:QAt w0 (r.test[k1],(⟨uv,ut,us,ur⟩:FQ)):=⟨hV,hT,hS,hG⟩
   obtain ⟨pv1,cv1,rfl, -⟩:=hV.form
   obtain ⟨pt1,ct1,rfl, -⟩:=hT.form
   obtain ⟨pu1,cu1,rfl, -⟩:=hS.form
   obtain ⟨pg1,cg1,rfl, -⟩:=hG.form
   have hDk:=gD.out k1 ky kx
   have cF:Hid (∀ W:World,Below wr.heap.size wr W→Calls Tryz.prog 27 #[.pointer pe,.agg #[.int .i64 r.test[k1].k,.string r.test[k1].nm,.int .i64 r.test[k1].op,.slice pv1 r.test[k1].vars.length cv1,.slice pt1 r.test[k1].terms.length ct1,.int .i64 r.test[k1].lo,.int .i64 r.test[k1].hi,.bool r.test[k1].opn,.slice pu1 r.test[k1].subs.length cu1,.slice pg1 r.test[k1].rgx.length cg1]] W fun r w'=>∃ v,r=.returned v∧PtT w0.heap.size w' v D[k1]∧Below W.heap.size W w'):=fun W hW=>by
    rw [hDk]
    exact HFH.out k1 kx (⟨.slice pv1 r.test[k1].vars.length cv1,.slice pt1 r.test[k1].terms.length ct1,.slice pu1 r.test[k1].subs.length cu1,.slice pg1 r.test[k1].rgx.length cg1⟩:FQ) W hQ (hwr.trans (hW.mono hwr.size)) (HEW.out.bel (hB.trans (hW.mono hzr)))
   have hTK:Hid (D.take (k1+1)=D.take k1++[D[k1]]):=List.take_succ_eq_append_getElem ky
   obtain ⟨us0,hO0,hl0,hP0⟩:=hRo.out
   have hl1:us0.length≤2000000:=by rw [hl0,List.length_take];omega
   clear FC hV hT hS hG hQ hDk hRo
   generalize r.test[k1].k=xk at*
   generalize r.test[k1].nm=xnm at*
   generalize r.test[k1].op=xop at*
   generalize r.test[k1].vars.length=xnv at*
   generalize r.test[k1].terms.length=xnt at*
   generalize r.test[k1].lo=xlo at*
   generalize r.test[k1].hi=xhi at*
   generalize r.test[k1].opn=xo at*
   generalize r.test[k1].subs.length=xns at*
   generalize r.test[k1].rgx.length=xnr at*
   go_wp2_with fail
   refine (cF.out _ (by go_grown)).mono ?_
   rintro r1 w4 ⟨v4,rfl,hP4,hb4⟩
   have hB4:Below wr.heap.size wr w4:=Below.trans (by go_grown) (hb4.mono (by simp))
   obtain ⟨TT,vv,rfl⟩:=hP4.pt.lens
   have hOw:Hid (OwnP W0.heap.size u5 us0 w4):=hO0.bel hB4
   have HP4:Hid (PtT w0.heap.size w4 (.iface TT vv) D[k1]):=hP4
   have HP0:Hid (∀ i (hi:i<us0.length) (hi':i<(D.take k1).length),PtT w0.heap.size w4 us0[i] (D.take k1)[i]):=fun i hi hi'=>(hP0 i hi hi').bel hB4
   have HL0:Hid (us0.length=(D.take k1).length):=hl0
   have HK:Hid (∀ q,u5.ownBlock=some q→W0.heap.size≤q):=fun q hq=>(hOw.out.row q hq).1
   have hz4:W0.heap.size≤w4.heap.size:=by have:=hB4.size;omega
   have hB5:Below W0.heap.size W0 w4:=hB.trans (hB4.mono hzr)
   clear hb4 cF a0 a1 a2 a3 a4 a5 a6 a7 a8 a9 hP4 hO0 hP0 hl0
   go_wp2_with (at_builtin;refine wpList_append_own _ rfl _ _ 89 rfl W0.heap.size 55 i0 .nilIface 1 16 Tryz.underlying89 hi_ hz0 hz1 hz2 rfl (by decide) _ _ _ rfl (World.ownsRow.alloc hOw.out _) ⟨w4.heap.size,0,none⟩ 1 1 [.iface TT vv] rfl rfl ?cb1 ?cb2 ?cb3 ?cb4 ?cb5 ?_)
   case cb1=>(intro j u hj;rw [Addr.add_lit];(rcases j with _ | j)<;>simp at hj<;>subst hj<;>simp (maxDischargeDepth:=12) [go_sem])
   case cb2=>first | rfl | (intro u hu;simp at hu;subst hu;rfl)
   case cb3=>unfold maxLen;omega
   case cb4=>omega
   case cb5=>first | omega | (simp;omega)
   intro v' w5 h2 h3 _
   have R5:Hid (RowP w0.heap.size W0.heap.size v' (D.take (k1+1)) w5):=by
    show RowP _ _ _ _ _
    rw [hTK.out]
    exact RowP.step hOw.out (by omega) HL0.out HP0.out HP4.out h2 h3
   have B5:Below W0.heap.size W0 w5:=Below.grown (hB5.alloc hz4 _) h3 (by simp;omega) HK.out
   clear h2 h3 hOw HP4 HP0 HL0 HK hB5
   go_wp2
   exact ⟨⟨k1+1,by omega,by go_num,R5,B5⟩,by simp [intOf];omega⟩
  case neg=>
   have c2:¬ (k1:Int)<ns:=by omega
   have hR1:Hid (RowP w0.heap.size W0.heap.size u5 D wr):=by
    have h:=hRo.out
    rwa [List.take_of_length_le (by have:=lD.out;omega)] at h
   have q2r:wr.cell? ⟨w.heap.size,2,none⟩=some (.slice pr nr cr):=(hB.cell (p:=⟨w.heap.size,2,none⟩) (Nat.lt_of_succ_lt LW0)).trans q2
   clear hRo HXS HFH gD
   go_wp2
   go_loopw [5,28] (fun v5 v28 wx=>∃ k:Nat,k≤nr∧v28=.int .i64 k∧Hid (RowP w0.heap.size W0.heap.size v5 (D++A.take k) wx)∧Below W0.heap.size W0 wx) (fun _ v28 _=>nr - (intOf v28).toNat)
   case atStart=>exact ⟨0,Nat.zero_le _,rfl,(by show RowP _ _ _ _ _;rw [List.take_zero,List.append_nil];exact hR1.out),hB⟩
   case round=>
    obtain ⟨k1,hk1,rfl,hRo,hB⟩:=hrel
    have hzr:=hB.size
    by_cases hlt:k1<nr
    case pos=>
     have kx:k1<r.subs.length:=by have:=enr.out;omega
     have ky:k1<A.length:=by have:=lA.out;omega
     have hlt':(k1:Int)<nr:=by omega
     obtain ⟨b,off,ut,us,hp,hb,RC,hT,hS⟩:=HXR.out k1 kx
     subst hp
     have hwr:Below w0.heap.size w0 wr:=(hw.trans (KW0.mono hzw0)).trans (hB.mono (by omega))
     obtain ⟨a0,a1,a2⟩:=RC.below hwr hb
     obtain ⟨pt1,ct1,rfl, -⟩:=hT.form
     obtain ⟨pu1,cu1,rfl, -⟩:=hS.form
     have hAk:=gA.out k1 ky kx
     have cR:Hid (∀ W:World,Below wr.heap.size wr W→Calls Tryz.prog 81 #[.pointer pe,.agg #[.int .i64 r.subs[k1].k,.slice pt1 r.subs[k1].test.length ct1,.slice pu1 r.subs[k1].subs.length cu1]] W fun r w'=>∃ v,r=.returned v∧PtT w0.heap.size w' (.iface 48 v) A[k1]∧Below W.heap.size W w'):=fun W hW=>by
      rw [hAk]
      exact HRH.out k1 kx _ _ W hT hS (hwr.trans (hW.mono hwr.size)) (HEW.out.bel (hB.trans (hW.mono hzr)))
     have hTK:Hid (D++A.take (k1+1)=D++A.take k1++[A[k1]]):=by show _=_;rw [List.take_succ_eq_append_getElem ky,List.append_assoc]
     obtain ⟨us0,hO0,hl0,hP0⟩:=hRo.out
     have hl1:us0.length≤2000000:=by rw [hl0,List.length_append,List.length_take];have:=lD.out;omega
     clear RC hT hS hAk hRo
     generalize r.subs[k1].k=rk at*
     generalize r.subs[k1].test.length=nt1 at*
     generalize r.subs[k1].subs.length=nu1 at*
     go_wp2_with fail
     refine (cR.out _ (by go_grown)).mono ?_
     rintro r1 w4 ⟨v4,rfl,hP4,hb4⟩
     have hB4:Below wr.heap.size wr w4:=Below.trans (by go_grown) (hb4.mono (by simp))
     obtain ⟨x4,e4⟩:∃ pv4 nv4 cv4 a4 r4 pb4 nb4 cb4,v4=.agg #[.slice pv4 nv4 cv4,.bool a4,.int .i64 r4,.slice pb4 nb4 cb4]:=by
      have h:=hP4.pt
      generalize A[k1]=PA at h
      generalize hu:Value.iface 48 v4=u4 at h
      cases h with
      | fx h1 h2=>
       obtain ⟨p1,c1,rfl, -⟩:=h1.form
       obtain ⟨p2,c2,rfl, -⟩:=h2.form
       injection hu with _ hu
       exact ⟨_,_,_,_,_,_,_,_,hu⟩
      | neg h1 h2 h3=>injection hu with hu;exact absurd hu (by decide)
      | cmp h1 h2 h3 h4 h5 h6=>injection hu with hu;exact absurd hu (by decide)
     obtain ⟨nv4,cv4,a4,r4,pb4,nb4,cb4,rfl⟩:=e4
     have hOw:Hid (OwnP W0.heap.size u5 us0 w4):=hO0.bel hB4
     have HP4:Hid (PtT w0.heap.size w4 (.iface 48 (.agg #[.slice x4 nv4 cv4,.bool a4,.int .i64 r4,.slice pb4 nb4 cb4])) A[k1]):=hP4
     have HP0:Hid (∀ i (hi:i<us0.length) (hi':i<(D++A.take k1).length),PtT w0.heap.size w4 us0[i] (D++A.take k1)[i]):=fun i hi hi'=>(hP0 i hi hi').bel hB4
     have HL0:Hid (us0.length=(D++A.take k1).length):=hl0
     have HK:Hid (∀ q,u5.ownBlock=some q→W0.heap.size≤q):=fun q hq=>(hOw.out.row q hq).1
     have hz4:W0.heap.size≤w4.heap.size:=by have:=hB4.size;omega
     have hB5:Below W0.heap.size W0 w4:=hB.trans (hB4.mono hzr)
     clear hb4 cR a0 a1 a2 hP4 hO0 hP0 hl0
     go_wp2_with (at_builtin;refine wpList_append_own _ rfl _ _ 89 rfl W0.heap.size 55 i0 .nilIface 1 16 Tryz.underlying89 hi_ hz0 hz1 hz2 rfl (by decide) _ _ _ rfl (World.ownsRow.alloc hOw.out _) ⟨w4.heap.size,0,none⟩ 1 1 [.iface 48 (.agg #[.slice x4 nv4 cv4,.bool a4,.int .i64 r4,.slice pb4 nb4 cb4])] rfl rfl ?ca1 ?ca2 ?ca3 ?ca4 ?ca5 ?_)
     case ca1=>(intro j u hj;rw [Addr.add_lit];(rcases j with _ | j)<;>simp at hj<;>subst hj<;>simp (maxDischargeDepth:=12) [go_sem])
     case ca2=>first | rfl | (intro u hu;simp at hu;subst hu;rfl)
     case ca3=>unfold maxLen;omega
     case ca4=>omega
     case ca5=>first | omega | (simp;omega)
     intro v' w5 h2 h3 _
     have R5:Hid (RowP w0.heap.size W0.heap.size v' (D++A.take (k1+1)) w5):=by
      show RowP _ _ _ _ _
      rw [hTK.out]
      exact RowP.step hOw.out (by omega) HL0.out HP0.out HP4.out h2 h3
     have B5:Below W0.heap.size W0 w5:=Below.grown (hB5.alloc hz4 _) h3 (by simp;omega) HK.out
     clear h2 h3 hOw HP4 HP0 HL0 HK hB5
     go_wp2
     exact ⟨⟨k1+1,by omega,by go_num,R5,B5⟩,by simp [intOf];omega⟩
    case neg=>
     have c3:¬ (k1:Int)<nr:=by omega
     have hR2:Hid (RowP w0.heap.size W0.heap.size u5 PP wr):=by
      have h:=hRo.out
      rw [List.take_of_length_le (by have:=lA.out;omega),← hPP.out] at h
      exact h
     clear hRo
     have hz2r:=hB.size
     have hLP:PtLst wr u5 PP:=hR2.out.lst (by show _≤_;rw [hPP.out,List.length_append];have:=lA.out;have:=lD.out;omega)
     have HL:Hid (PtLst wr u5 PP):=hLP
     have C1:Hid (∀ W:World,Below wr.heap.size wr W→Calls Tryz.prog 110 #[u5] W fun e w'=>∃ v,e=.returned v∧OwnN W.heap.size v (varsP PP) w'∧Below W.heap.size W w'):=fun W hW=>varsOf_any PP u5 W (HL.out.below hW) HTV.out
     have C2:Hid (∀ W:World,Below wr.heap.size wr W→Calls Tryz.prog 85 #[u5] W fun e w'=>e=.returned (.bool (accP PP))∧Below W.heap.size W w'):=fun W hW=>accepted_any PP u5 W (HL.out.below hW)
     have C3:Hid (∀ W:World,Below wr.heap.size wr W→Calls Tryz.prog 88 #[u5] W fun e w'=>e=.returned (.int .i64 (farP PP))∧Below W.heap.size W w'):=fun W hW=>farthest_any PP u5 W (HL.out.below hW)
     have C4:Hid (∀ W:World,Below wr.heap.size wr W→Calls Tryz.prog 91 #[u5] W fun e w'=>∃ v,e=.returned v∧OwnN W.heap.size v (bareP PP) w'∧Below W.heap.size W w'):=fun W hW=>bareOf_any PP u5 W (HL.out.below hW) HTB.out
     have lV:(varsP PP).length≤1000000000:=Nat.le_trans (uni_one _) HTV.out
     have lBr:(bareP PP).length≤1000000000:=Nat.le_trans (uni_one _) HTB.out
     have q0r:wr.cell? ⟨w.heap.size,0,none⟩=some (.int .i64 k):=(hB.cell (p:=⟨w.heap.size,0,none⟩) (Nat.lt_of_succ_lt LW0)).trans q0
     have HRr:Hid (wr.heap[w.heap.size+1]? =_):=(hB.block _ LW0).trans HRES.out
     have KWr:Below w.heap.size w wr:=KW0.trans (hB.mono hzW)
     obtain ⟨pL,cL,eL, -⟩:=hLP
     clear hR2 q0 q1 q2 HRES HXR HRH gA lA lD hR1 q2r
     subst eL
     obtain ⟨VS,eVS⟩:∃ VS,Hid (varsP PP=VS):=⟨_,rfl⟩
     obtain ⟨BS,eBS⟩:∃ BS,Hid (bareP PP=BS):=⟨_,rfl⟩
     obtain ⟨AC,eAC⟩:∃ AC,Hid (accP PP=AC):=⟨_,rfl⟩
     obtain ⟨FR,eFR⟩:∃ FR,Hid (farP PP=FR):=⟨_,rfl⟩
     rw [eVS.out] at C1 lV
     rw [eBS.out] at C4 lBr
     rw [eAC.out] at C2
     rw [eFR.out] at C3
     obtain ⟨np,enp⟩:∃ np:Nat,Hid (PP.length=np):=⟨_,rfl⟩
     rw [enp.out] at HL C1 C2 C3 C4 ⊢
     have HX2:Hid (X=⟨VS,AC && (if k=3 then decide ((ptN PP 0).about.vars=(ptN PP 1).about.vars) else if k=5 then VS.isEmpty else true),FR,BS⟩):=by
      have h:=hX.out
      unfold mkR at h
      rw [eVS.out,eBS.out,eAC.out,eFR.out] at h
      exact h
     clear hX eVS eBS eAC eFR
     have HPPL:Hid (k=3→1<PP.length):=HAlt
     clear HAlt hPP HTV HTB
     go_wp2_with fail
     refine (C1.out _ (Below.refl _ _)).mono ?_
     rintro e1 w2 ⟨v2,rfl,hO2,hb2⟩
     have hT2:Hid (NmsT w2 v2 VS):=hO2.nmsT (by omega)
     obtain ⟨p2,c2_,rfl, -⟩:=hO2.cap
     have k2:=hb2.size
     clear C1 hO2
     go_wp2_with fail
     refine (C2.out _ hb2).mono ?_
     rintro e1 w3 ⟨rfl,hb3⟩
     have hB3:Below wr.heap.size wr w3:=hb2.trans (hb3.mono k2)
     have k3:=hB3.size
     have hT3:Hid (NmsT w3 (.slice p2 VS.length c2_) VS):=hT2.out.below hb3
     clear C2 hb3 hT2
     go_wp2_with fail
     refine (C3.out _ hB3).mono ?_
     rintro e1 w4 ⟨rfl,hb4⟩
     have hB4:Below wr.heap.size wr w4:=hB3.trans (hb4.mono k3)
     have k4:=hB4.size
     have hT4:Hid (NmsT w4 (.slice p2 VS.length c2_) VS):=hT3.out.below hb4
     clear C3 hb4 hT3
     go_wp2_with fail
     refine (C4.out _ hB4).mono ?_
     rintro e1 w5 ⟨v5,rfl,hO5,hb5⟩
     have hB5:Below wr.heap.size wr w5:=hB4.trans (hb5.mono k4)
     have k5:=hB5.size
     have hT5:Hid (NmsT w5 (.slice p2 VS.length c2_) VS):=hT4.out.below hb5
     have hU5:Hid (NmsT w5 v5 BS):=hO5.nmsT (by omega)
     obtain ⟨p5,c5,rfl, -⟩:=hO5.cap
     clear C4 hb5 hT4 hO5 hb2 hB3 hB4 k2 k3 k4
     go_upto_region 13 with fail
     refine wp_world ?_
     intro W1 hW1
     have b51:Below w5.heap.size w5 W1:=by rw [hW1];go_grown
     have L1:w5.heap.size<W1.heap.size:=by rw [hW1];simp
     have g0:W1.cell? ⟨w5.heap.size,0,none⟩=some (.slice p2 VS.length c2_):=by rw [hW1];simp (maxDischargeDepth:=12) [go_sem]
     have g1:W1.cell? ⟨w5.heap.size,1,none⟩=some (.bool AC):=by rw [hW1];simp (maxDischargeDepth:=12) [go_sem]
     have g2:W1.cell? ⟨w5.heap.size,2,none⟩=some (.int .i64 FR):=by rw [hW1];simp (maxDischargeDepth:=12) [go_sem]
     have g3:W1.cell? ⟨w5.heap.size,3,none⟩=some (.slice p5 BS.length c5):=by rw [hW1];simp (maxDischargeDepth:=12) [go_sem]
     have gz:W1.frozen? ⟨w5.heap.size,1,none⟩=false:=by rw [hW1];simp (maxDischargeDepth:=12) [go_sem]
     have HH10:Hid (∃ cs z,W1.heap[w5.heap.size]? =some (Obj.cells cs 48 z)):=by rw [hW1];exact ⟨_,_,heap_allocA _ _⟩
     clear hW1
     have kwr:w.heap.size+1<wr.heap.size:=Nat.lt_of_lt_of_le LW0 hz2r
     have br1:Below wr.heap.size wr W1:=hB5.trans (b51.mono k5)
     have hT1:Hid (NmsT W1 (.slice p2 VS.length c2_) VS):=hT5.out.below b51
     have hU1:Hid (NmsT W1 (.slice p5 BS.length c5) BS):=hU5.out.below b51
     have K1:Below w.heap.size w W1:=KWr.trans (br1.mono (Nat.le_of_lt (Nat.lt_of_succ_lt kwr)))
     have q01:W1.cell? ⟨w.heap.size,0,none⟩=some (.int .i64 k):=(br1.cell (p:=⟨w.heap.size,0,none⟩) (Nat.lt_of_succ_lt kwr)).trans q0r
     have HR1:Hid (W1.heap[w.heap.size+1]? =_):=(br1.block _ kwr).trans HRr.out
     have z1:=K1.size
     clear hT5 hU5 b51 HRr q0r hB5 KWr hB
     have CA9:Hid (∀ (a:Bool) (r:Int) (pv pb:Option Addr) (nv nb cv cb:Nat) (W:World),Calls Tryz.prog 197 #[.agg #[.slice pv nv cv,.bool a,.int .i64 r,.slice pb nb cb]] W fun e w'=>e=.returned (.agg #[.slice pv nv cv,.bool a,.int .i64 r,.slice pb nb cb])∧Below W.heap.size W w'):=fun a r pv pb nv nb cv cb W=>about_fx (.bool true) (.bool true) a r pv pb nv nb cv cb W
     have h10:Hid (∃ cs z,W1.heap[w5.heap.size]? =some (Obj.cells cs 48 z)):=HH10
     have finish:Hid (∀ (W:World) (B:Bool),Below W1.heap.size W1 W→X.acc=B→(fun wx:World=>wx.cell? ⟨w5.heap.size,0,none⟩=some (.slice p2 VS.length c2_)∧wx.cell? ⟨w5.heap.size,1,none⟩=some (.bool X.acc)∧wx.cell? ⟨w5.heap.size,2,none⟩=some (.int .i64 FR)∧wx.cell? ⟨w5.heap.size,3,none⟩=some (.slice p5 BS.length c5)∧NmsT wx (.slice p2 VS.length c2_) VS∧NmsT wx (.slice p5 BS.length c5) BS∧Below w.heap.size w wx∧wx.heap[w.heap.size+1]? =some (.cells #[.slice none 0 0,.bool false,.int .i64 0,.slice none 0 0] 48 (0,0))) (W.setCell ⟨w5.heap.size,1,none⟩ (.bool B))):=fun W B hW hx=>by
      have cc:∀ o,W.cell? ⟨w5.heap.size,o,none⟩=W1.cell? ⟨w5.heap.size,o,none⟩:=fun o=>hW.cell (p:=⟨w5.heap.size,o,none⟩) L1
      have kk:∀ b,b≠w5.heap.size→(W.setCell ⟨w5.heap.size,1,none⟩ (.bool B)).heap[b]? =W.heap[b]?:=fun b h=>set_block h
      obtain ⟨cs0,z0,hh0⟩:=h10.out
      have hhW:W.heap[w5.heap.size]? =some (Obj.cells cs0 48 z0):=(hW.block _ L1).trans hh0
      have ks:∀ (b:Nat) (cs:Array Value) (z:_),W.heap[b]? =some (Obj.cells cs 9 z)→(W.setCell ⟨w5.heap.size,1,none⟩ (.bool B)).heap[b]? =W.heap[b]?:=fun b cs z h=>kk b (fun e=>by
       subst e
       rw [hhW] at h
       injection h with h
       injection h with _ h
       exact absurd h (by decide))
      have n0:W.cell? ⟨w5.heap.size,0,none⟩=some (.slice p2 VS.length c2_):=(cc 0).trans g0
      have n1:W.cell? ⟨w5.heap.size,1,none⟩=some (.bool AC):=(cc 1).trans g1
      have n2:W.cell? ⟨w5.heap.size,2,none⟩=some (.int .i64 FR):=(cc 2).trans g2
      have n3:W.cell? ⟨w5.heap.size,3,none⟩=some (.slice p5 BS.length c5):=(cc 3).trans g3
      refine ⟨?_, ?_, ?_, ?_, ?_, ?_, ?_, ?_⟩
      ·simp (maxDischargeDepth:=12) [go_sem,n0]
      ·rw [hx];simp (maxDischargeDepth:=12) [go_sem,n1]
      ·simp (maxDischargeDepth:=12) [go_sem,n2]
      ·simp (maxDischargeDepth:=12) [go_sem,n3]
      ·exact nmsT_heap (hT1.out.below hW) (by simp) ks
      ·exact nmsT_heap (hU1.out.below hW) (by simp) ks
      ·have hKW:Below w.heap.size w W:=K1.trans (hW.mono z1)
       have hge:w.heap.size≤w5.heap.size:=Nat.le_trans (Nat.le_of_lt (Nat.lt_of_succ_lt kwr)) k5
       go_grown
      ·rw [kk _ (by have:=k5;omega)]
       exact (hW.block _ (by have:=k5;omega)).trans HR1.out
     have hXa:Hid (X.acc=(AC && (if k=3 then decide ((ptN PP 0).about.vars=(ptN PP 1).about.vars) else if k=5 then VS.isEmpty else true))):=by show _=_;rw [HX2.out]
     go_upto_block 4 with fail
     go_cut [] (fun wx=>wx.cell? ⟨w5.heap.size,0,none⟩=some (.slice p2 VS.length c2_)∧wx.cell? ⟨w5.heap.size,1,none⟩=some (.bool X.acc)∧wx.cell? ⟨w5.heap.size,2,none⟩=some (.int .i64 FR)∧wx.cell? ⟨w5.heap.size,3,none⟩=some (.slice p5 BS.length c5)∧NmsT wx (.slice p2 VS.length c2_) VS∧NmsT wx (.slice p5 BS.length c5) BS∧Below w.heap.size w wx∧wx.heap[w.heap.size+1]? =some (.cells #[.slice none 0 0,.bool false,.int .i64 0,.slice none 0 0] 48 (0,0)))
     case first=>
      clear HX2
      by_cases h3:k=3
      ·subst h3
       have h1:=HPPL.out rfl
       obtain ⟨b,off,c,u0,u1,eV,hbr,e0r,e1r,p0r,p1r⟩:=HL.out.two (by rw [← enp.out] at*;exact h1)
       injection eV with e2 e3 e4
       subst e2
       obtain ⟨T0,vv0,pv0,pb0,cv0,cb0,rfl,hn0, -,hm0⟩:=p0r.abt
       obtain ⟨T1,vv1,pv1,pb1,cv1,cb1,rfl,hn1, -,hm1⟩:=p1r.abt
       have e0:=(br1.cell (p:=⟨b,off,none⟩) hbr).trans e0r
       have e1:=(br1.cell (p:=⟨b,off+1,none⟩) hbr).trans e1r
       have cE:Hid (∀ W:World,Below W1.heap.size W1 W→Calls Tryz.prog 111 #[.slice pv0 (ptN PP 0).about.vars.length cv0,.slice pv1 (ptN PP 1).about.vars.length cv1] W fun e w'=>e=.returned (.bool (decide ((ptN PP 0).about.vars=(ptN PP 1).about.vars)))∧Below W.heap.size W w'):=fun W hW=>seqS_any _ _ _ _ W (hn0.below (br1.trans (hW.mono br1.size))) (hn1.below (br1.trans (hW.mono br1.size)))
       have hXb:Hid (X.acc=(AC && decide ((ptN PP 0).about.vars=(ptN PP 1).about.vars))):=hXa.out.trans (by rw [if_pos rfl])
       have hnp0:0<np:=by have:=enp.out;omega
       have hnp0':(0:Int)<(np:Int):=by omega
       have hnp:(1:Int)<(np:Int):=by have:=enp.out;omega
       have hw5:wr.heap.size≤w5.heap.size:=k5
       have hbr1:b<W1.heap.size:=Nat.lt_of_lt_of_le hbr br1.size
       have L1':w5.heap.size<W1.heap.size:=L1
       clear p0r p1r hn0 hn1 hXa e3 e4 HL e0r e1r
       generalize decide ((ptN PP 0).about.vars=(ptN PP 1).about.vars)=DD at*
       generalize (ptN PP 0).about.acc=A0 at*
       generalize (ptN PP 0).about.reach=r0 at*
       generalize (ptN PP 0).about.vars.length=n0 at*
       generalize (ptN PP 0).about.bare.length=b0 at*
       generalize (ptN PP 1).about.acc=A1 at*
       generalize (ptN PP 1).about.reach=r1 at*
       generalize (ptN PP 1).about.vars.length=n1 at*
       generalize (ptN PP 1).about.bare.length=b1 at*
       have hfd:=fld_vars
       cases AC with
       | false=>
        have hx0:Hid (X.acc=false):=by show _=_;rw [hXb.out];rfl
        go_upto_region 15 with fail
        go_region
        all_goals
         go_wp2_with fail
         go_meet
         have h:=finish.out W1.drew false (by go_grown) hx0.out
         exact h
       | true=>
        have hx0:Hid (X.acc=DD):=by show _=_;rw [hXb.out];rfl
        go_upto_region 15 with fail
        go_region_with (first
         | (go_at_call_of 197 (Value.bool A0);refine (CA9.out _ _ _ _ _ _ _ _ _).mono ?_;rintro e v1 ⟨rfl,hv1⟩;obtain ⟨j1,m1⟩:=bgX (n:=W1.heap.size) (W0:=W1) (by go_grown) (by go_size) hv1;have e0':=(j1.cell (p:=⟨b,off,none⟩) hbr1).trans e0;have e1':=(j1.cell (p:=⟨b,off+1,none⟩) hbr1).trans e1;have g1':=(j1.cell (p:=⟨w5.heap.size,1,none⟩) L1).trans g1;have gz':=(j1.frozen (p:=⟨w5.heap.size,1,none⟩) L1).trans gz)
         | (go_at_call_of 197 (Value.bool A1);refine (CA9.out _ _ _ _ _ _ _ _ _).mono ?_;rintro e v2 ⟨rfl,hv2⟩;obtain ⟨j2,m2⟩:=bgX (n:=W1.heap.size) (W0:=W1) (by go_grown) (by go_size) hv2;have e0'':=(j2.cell (p:=⟨b,off,none⟩) hbr1).trans e0;have e1'':=(j2.cell (p:=⟨b,off+1,none⟩) hbr1).trans e1;have g1'':=(j2.cell (p:=⟨w5.heap.size,1,none⟩) L1).trans g1;have gz'':=(j2.frozen (p:=⟨w5.heap.size,1,none⟩) L1).trans gz)
         | (go_at_call 111;refine (cE.out _ (by go_grown)).mono ?_;rintro e v3 ⟨rfl,hv3⟩;obtain ⟨j3,m3⟩:=bgX (n:=W1.heap.size) (W0:=W1) (by go_grown) (by go_size) hv3;have g1''':=(j3.cell (p:=⟨w5.heap.size,1,none⟩) L1).trans g1;have gz''':=(j3.frozen (p:=⟨w5.heap.size,1,none⟩) L1).trans gz))
        all_goals
         go_wp2_with fail
         go_meet
         exact finish.out _ _ (by go_grown) hx0.out
      by_cases h5:k=5
      ·subst h5
       have hXb:Hid (X.acc=(AC && VS.isEmpty)):=hXa.out.trans (by rw [if_neg (by decide),if_pos rfl])
       cases AC with
       | false=>
        have hx0:Hid (X.acc=false):=by show _=_;rw [hXb.out];rfl
        go_wp2_with fail
        go_meet
        exact finish.out _ _ (by go_grown) hx0.out
       | true=>
        obtain ⟨D5,eD5⟩:∃ D5:Bool,((VS.length:Int)==0)=D5:=⟨_,rfl⟩
        have hx0:Hid (X.acc=D5):=by
         show _=_
         rw [hXb.out,← eD5,Bool.true_and]
         cases VS with
         | nil=>rfl
         | cons x l=>simp;omega
        go_wp2_with fail
        go_meet
        exact finish.out _ _ (by go_grown) hx0.out
      ·have hx0:Hid (X.acc=AC):=by show _=_;rw [hXa.out,if_neg h3,if_neg h5,Bool.and_true]
       have c3:(k==3)=false:=by simp [h3]
       have c5:(k==5)=false:=by simp [h5]
       go_wp2_with fail
       go_meet
       exact ⟨g0,by rw [hx0.out];exact g1,g2,g3,hT1.out,hU1.out,K1,HR1.out⟩
     case rest=>
     obtain ⟨g0c,g1c,g2c,g3c,hTc,hUc,Kc,hRc⟩:=hcut
     rename_i wc
     have r0:wc.cell? ⟨w.heap.size+1,0,none⟩=some (.slice none 0 0):=by rw [Lib.cell_of_heap hRc];rfl
     have r1:wc.cell? ⟨w.heap.size+1,1,none⟩=some (.bool false):=by rw [Lib.cell_of_heap hRc];rfl
     have r2:wc.cell? ⟨w.heap.size+1,2,none⟩=some (.int .i64 0):=by rw [Lib.cell_of_heap hRc];rfl
     have r3:wc.cell? ⟨w.heap.size+1,3,none⟩=some (.slice none 0 0):=by rw [Lib.cell_of_heap hRc];rfl
     have f0:wc.frozen? ⟨w.heap.size+1,0,none⟩=false:=Lib.frozen_of_heap hRc _
     have f1:wc.frozen? ⟨w.heap.size+1,1,none⟩=false:=Lib.frozen_of_heap hRc _
     have f2:wc.frozen? ⟨w.heap.size+1,2,none⟩=false:=Lib.frozen_of_heap hRc _
     have f3:wc.frozen? ⟨w.heap.size+1,3,none⟩=false:=Lib.frozen_of_heap hRc _
     have HTc:Hid (NmsT wc (.slice p2 VS.length c2_) VS):=hTc
     have HUc:Hid (NmsT wc (.slice p5 BS.length c5) BS):=hUc
     have HRc:Hid (wc.heap[w.heap.size+1]? =some (.cells #[.slice none 0 0,.bool false,.int .i64 0,.slice none 0 0] 48 (0,0))):=hRc
     have keep:Hid (∀ (u0 u1 u2 u3:Value) (b:Nat) (cs:Array Value) (z:_),wc.heap[b]? =some (Obj.cells cs 9 z)→((((wc.setCell ⟨w.heap.size+1,0,none⟩ u0).setCell ⟨w.heap.size+1,1,none⟩ u1).setCell ⟨w.heap.size+1,2,none⟩ u2).setCell ⟨w.heap.size+1,3,none⟩ u3).heap[b]? =wc.heap[b]?):=fun u0 u1 u2 u3 b cs z h=>by
      have hne:b≠w.heap.size+1:=fun e=>by
       subst e
       rw [HRc.out] at h
       injection h with h
       injection h with _ h
       exact absurd h (by decide)
      rw [set_block hne,set_block hne,set_block hne,set_block hne]
     have eX1:X.vars=VS:=by rw [HX2.out]
     have eX3:X.reach=FR:=by rw [HX2.out]
     have eX4:X.bare=BS:=by rw [HX2.out]
     have E1:Hid (X.vars=VS):=eX1
     have E3:Hid (X.reach=FR):=eX3
     have E4:Hid (X.bare=BS):=eX4
     clear hTc hUc hRc eX1 eX3 eX4
     go_wp2
     obtain ⟨z0,z1,z2,z3⟩:=set4 (.slice p2 VS.length c2_) (.bool X.acc) (.int .i64 FR) (.slice p5 BS.length c5) r0 r1 r2 r3
     generalize hW:World.setCell _ _ _=W9 at*
     refine bodyPost_ret (by simp [results,Tryz.results81,go_sem,z0,z1,z2,z3];try rfl) rfl ?_
     subst hW
     refine ⟨_,rfl, ?_,by go_grown⟩
     have hv:=nmsT_heap (w':=_) HTc.out (by simp) (keep.out (.slice p2 VS.length c2_) (.bool X.acc) (.int .i64 FR) (.slice p5 BS.length c5))
     have hu:=nmsT_heap (w':=_) HUc.out (by simp) (keep.out (.slice p2 VS.length c2_) (.bool X.acc) (.int .i64 FR) (.slice p5 BS.length c5))
     have h:=PtT.fx (B:=w0.heap.size) (x:=⟨VS,X.acc,FR,BS⟩) hv hu
     have h2:Pt.fx ⟨VS,X.acc,FR,BS⟩=Pt.fx X:=by rw [← E1.out,← E3.out,← E4.out]
     rw [h2] at h
     exact h
theorem pts_chk {f:Fm} (h:chkF f=0):∀ g∈ptsF f,chkF g=0:=fun g hg=>by
 obtain ⟨i,hi,e⟩:=List.getElem_of_mem hg
 rw [← e]
 exact (part_chk h hi).1
theorem len_nodFs:∀ l:List Fm,l.length≤nodFs l
 | []=>by simp
 | f::l=>by
  have h1:=len_nodFs l
  have h2:=nodF_eq f
  rw [nodFs_cons,List.length_cons]
  omega
theorem len_nodRs:∀ l:List Rx,l.length≤nodRs l
 | []=>by simp
 | f::l=>by
  have h1:=len_nodRs l
  have h2:=nodR_eq f
  rw [nodRs_cons,List.length_cons]
  omega
theorem rgx_subs {f:Fm} (h:fmE f=0):f.rgx=[]∨f.subs=[]:=by
 obtain ⟨⟨h1,h2⟩, -, -,hs,hr⟩:=fm_forms h
 have hr2:=hr.2
 have hs2:=hs.2
 clear hr hs
 by_cases h17:f.k=17∨f.k=18
 ·right
  rcases h17 with e | e<;>rw [e] at hs2<;>exact List.length_eq_zero_iff.1 (by have:((frm 17).sm:Int)=0∧(frm 18).sm=0:=⟨rfl,rfl⟩;omega)
 ·left
  have e0:(frm f.k).rm=0:=by
   have h1:¬ f.k=17:=fun h=>h17 (Or.inl h)
   have h2:¬ f.k=18:=fun h=>h17 (Or.inr h)
   have hk:f.k=1∨f.k=2∨f.k=3∨f.k=4∨f.k=5∨f.k=6∨f.k=7∨f.k=8∨f.k=9∨f.k=10∨f.k=11∨f.k=12∨f.k=13∨f.k=14∨f.k=15∨f.k=16∨f.k=19∨f.k=20∨f.k=21∨f.k=22:=by omega
   rcases hk with h | h | h | h | h | h | h | h | h | h | h | h | h | h | h | h | h | h | h | h<;>rw [h]<;>rfl
  exact List.length_eq_zero_iff.1 (by omega)
theorem two_subs {f:Fm} (h:fmE f=0) (hk:f.k=20):∃ A B,f.subs=[A,B]:=by
 obtain ⟨-, -, -,hs, -⟩:=fm_forms h
 rw [hk] at hs
 have e1:(frm 20).sl=2∧(frm 20).sm=2:=⟨rfl,rfl⟩
 have hl:f.subs.length=2:=by omega
 match hf:f.subs,hl with
 | [A,B],_=>exact ⟨A,B,rfl⟩
theorem rts_mem {r:Rx} {l:List Rx} (h:r∈l):∀ g∈rts r,g∈rtss l:=by
 induction l with
 | nil=>cases h
 | cons x l ih=>
  intro g hg
  rw [rtss_cons]
  rcases List.mem_cons.1 h with rfl | h
  ·exact List.mem_append_left _ hg
  ·exact List.mem_append_right _ (ih h g hg)
def PartC (w0:World) (f:Fm) (e:Env):Prop:=∀ (q:FQ) (pe:Option Addr) (W:World),QAt w0 (f,q)→Below w0.heap.size w0 W→EnvAt W pe e→Calls Tryz.prog 27 #[.pointer pe,.agg #[.int .i64 f.k,.string f.nm,.int .i64 f.op,q.v,q.t,.int .i64 f.lo,.int .i64 f.hi,.bool f.opn,q.s,q.r]] W fun r w'=>∃ v,r=.returned v∧PtT w0.heap.size w' v (prtF f e)∧Below W.heap.size W w'
def RegC (w0:World) (r:Rx) (e:Env):Prop:=∀ (ut us:Value) (pe:Option Addr) (W:World),FmsAt w0 ut r.test→RxsAt w0 us r.subs→Below w0.heap.size w0 W→EnvAt W pe e→Calls Tryz.prog 81 #[.pointer pe,.agg #[.int .i64 r.k,ut,us]] W fun x w'=>∃ v,x=.returned v∧PtT w0.heap.size w' (.iface 48 v) (.fx (prtR r e))∧Below W.heap.size W w'
theorem all_parts (w0:World):∀ n:Nat,(∀ (f:Fm) (e:Env) (M:Int),nodF f≤n→chkF f=0→0≤M→EnvB M e→M+1099511627776*(nodF f:Int)≤4611686018427387904→PartC w0 f e)∧(∀ (r:Rx) (e:Env) (M:Int),nodR r≤n→wfR r→(∀ g∈rts r,chkF g=0)→nodR r≤1000000→0≤M→EnvB M e→M+1099511627776*(nodR r:Int)≤4611686018427387904→RegC w0 r e):=by
 intro n
 induction n with
 | zero=>exact ⟨fun f e M h=>by rw [nodF_eq] at h;omega,fun r e M h=>by rw [nodR_eq] at h;omega⟩
 | succ n ih=>
  constructor
  ·intro f e M hn hc hM hE hb q pe W hq hw hEA
   obtain ⟨hwf,hn256, -, -⟩:=(chk_iff f).1 hc
   have hwf0:=hwf
   rw [wfF_eq] at hwf
   obtain ⟨hfe,hwt,hwr,hws⟩:=hwf
   have hN:=nodF_eq f
   have hP:=pts_chk hc
   have hsub:∀ g∈f.subs,chkF g=0:=fun g hg=>by
    rcases rgx_subs hfe with h | h
    ·exact hP g (by unfold ptsF;rw [if_pos h];exact hg)
    ·rw [h] at hg;cases hg
   have hrg:∀ r∈f.rgx,∀ g∈rts r,chkF g=0:=fun r hr g hg=>hP g (by
    unfold ptsF
    rw [if_neg (fun h=>by rw [h] at hr;cases hr)]
    exact rts_mem hr g hg)
   have hls:f.subs.length≤1000000:=by have:=len_nodFs f.subs;omega
   have hlr:f.rgx.length≤1000000:=by have:=len_nodRs f.rgx;omega
   have SF:∀ (E1:Env),EnvB M E1→∀ i (hi:i<f.subs.length),PartC w0 f.subs[i] E1:=fun E1 hE1 i hi=>by
    have hm:=nodFs_in f.subs[i] (List.getElem_mem hi)
    exact ih.1 _ E1 M (by omega) (hsub _ (List.getElem_mem hi)) hM hE1 (by omega)
   have SR:∀ (E1:Env),EnvB M E1→∀ i (hi:i<f.rgx.length),RegC w0 f.rgx[i] E1:=fun E1 hE1 i hi=>by
    have hm:=nodRs_in f.rgx[i] (List.getElem_mem hi)
    exact ih.2 _ E1 M (by omega) (wfRs_in hwr _ (List.getElem_mem hi)) (hrg _ (List.getElem_mem hi)) (by omega) hM hE1 (by omega)
   have hlp:(ptsE f e).length≤9223372036854775807:=by
    rw [pts_len]
    split<;>omega
   have HPs:∀ W:World,Below w0.heap.size w0 W→EnvAt W pe e→Calls Tryz.prog 49 #[.pointer pe,.agg #[.int .i64 f.k,.string f.nm,.int .i64 f.op,q.v,q.t,.int .i64 f.lo,.int .i64 f.hi,.bool f.opn,q.s,q.r]] W fun r w'=>∃ v,r=.returned v∧PtLT w0.heap.size w' v (ptsE f e)∧Below W.heap.size W w':=by
    intro W1 hw1 hEA1
    by_cases h20:f.k=20
    ·obtain ⟨A,B,hs⟩:=two_subs hfe h20
     have hA:A∈f.subs:=by rw [hs];simp
     have hB:B∈f.subs:=by rw [hs];simp
     have hnn:nodFs f.subs=nodF A+nodF B:=by rw [hs,nodFs_cons,nodFs_cons,nodFs_nil];rfl
     have hrA:=(rch_bd (nodF A)).1 A e M (Nat.le_refl _) (wfFs_in hws A hA) hM hE
     refine parts_let w0 f q e pe W1 A B h20 hs hq hw1 hEA1 ?_ ?_
     ·intro qg W2 hqg hw2 hE2
      exact ih.1 A e M (by omega) (hsub A hA) hM hE (by omega) qg pe W2 hqg hw2 hE2
     ·intro qg pe' W2 hqg hw2 hE2
      exact ih.1 B _ (M+1099511627776*(nodF A:Int)) (by omega) (hsub B hB) (by omega) (env_let hE hrA.1 hrA.2 (by omega)) (by omega) qg pe' W2 hqg hw2 hE2
    ·by_cases h21:f.k=21
     ·have hE1:EnvB M ((f.nm,0)::e):=env_let hE (Int.le_refl _) hM (Int.le_refl _)
      refine (parts_past w0 f q e ((f.nm,0)::e) pe W1 h21 (by rw [if_pos h21]) hq hw1 hEA1 hls hlr ?_ ?_).mono ?_
      ·intro i hi qg pe' W2 hqg hw2 hE2
       exact SF _ hE1 i hi qg pe' W2 hqg hw2 hE2
      ·intro i hi ut us pe' W2 h1 h2 hw2 hE2
       exact SR _ hE1 i hi ut us pe' W2 h1 h2 hw2 hE2
      ·rintro r w' ⟨v,h1,h2,h3⟩
       exact ⟨v,h1,h2.lt hlp,h3⟩
     ·refine (parts_else w0 f q e e pe W1 h20 h21 (by rw [if_neg h21]) hq hw1 hEA1 hls hlr ?_ ?_).mono ?_
      ·intro i hi qg pe' W2 hqg hw2 hE2
       exact SF _ hE i hi qg pe' W2 hqg hw2 hE2
      ·intro i hi ut us pe' W2 h1 h2 hw2 hE2
       exact SR _ hE i hi ut us pe' W2 h1 h2 hw2 hE2
      ·rintro r w' ⟨v,h1,h2,h3⟩
       exact ⟨v,h1,h2.lt hlp,h3⟩
   exact spart_any w0 f q e M pe W (pts_n hwf0 e).2.2 hc hM hE hb hq hw hEA HPs
  ·intro r e M hn hwf hts hn6 hM hE hb ut us pe W hT hS hw hEA
   have hwf0:=hwf
   rw [wfR_eq] at hwf
   obtain ⟨hre,hwt,hws⟩:=hwf
   have hN:=nodR_eq r
   rw [rts_eq] at hts
   have hls:r.test.length≤1000000:=by have:=len_nodFs r.test;omega
   have hlr:r.subs.length≤1000000:=by have:=len_nodRs r.subs;omega
   refine regexOf_step w0 r ut us e pe W hwf0 hT hS hw hEA hls hlr (by omega) ?_ ?_
   ·intro i hi qg W2 hqg hw2 hE2
    have hm:=nodFs_in r.test[i] (List.getElem_mem hi)
    exact ih.1 _ e M (by omega) (hts _ (List.mem_append_left _ (List.getElem_mem hi))) hM hE (by omega) qg pe W2 hqg hw2 hE2
   ·intro i hi ut2 us2 W2 h1 h2 hw2 hE2
    have hm:=nodRs_in r.subs[i] (List.getElem_mem hi)
    exact ih.2 _ e M (by omega) (wfRs_in hws _ (List.getElem_mem hi)) (fun g hg=>hts g (List.mem_append_right _ (rts_mem (List.getElem_mem hi) g hg))) (by omega) hM hE (by omega) ut2 us2 pe W2 h1 h2 hw2 hE2
theorem partOf_any (f:Fm) (q:FQ) (w:World) (hc:chkF f=0) (hq:QAt w (f,q)):Calls Tryz.prog 27 #[.pointer none,.agg #[.int .i64 f.k,.string f.nm,.int .i64 f.op,q.v,q.t,.int .i64 f.lo,.int .i64 f.hi,.bool f.opn,q.s,q.r]] w fun r w'=>∃ v,r=.returned v∧PtT w.heap.size w' v (prtF f [])∧Below w.heap.size w w':=by
 obtain ⟨-,hn, -, -⟩:=(chk_iff f).1 hc
 exact (all_parts w (nodF f)).1 f [] 0 (Nat.le_refl _) hc (Int.le_refl _) (fun x hx=>by cases hx) (by omega) q none w hq (Below.refl _ _) .nil
end Go.Proofs.YthodedagbbifbaaGreat
namespace Go.Proofs.YthodedagbbifbaaGreat
open Go.RowKit LX Go.Shelf
set_option linter.unusedVariables false
def StrAt (w:World) (v:Value) (vs:List (List UInt8)):Prop:=∃ b c,v=.slice (some ⟨b,0,none⟩) vs.length c∧b<w.heap.size∧∀ i (h:i<vs.length),w.cell? ⟨b,i,none⟩=some (.string ⟨vs[i].toArray⟩)
theorem words_any (w:World):
  Calls Tryz.prog 124 #[] w fun e w'=>e=.returned (.slice (some ⟨w.heap.size,0,none⟩) 23 23)∧Below w.heap.size w w'∧StrAt w' (.slice (some ⟨w.heap.size,0,none⟩) 23 23) resv:=by
 go_enter Tryz.func124,Tryz.ntmps124
 go_wp2
 go_ret
 refine ⟨rfl,by go_grown,w.heap.size,23,rfl,by simp,fun i hi=> ?_⟩
 rw [World.cell?_alloc_at _ _ _ _ rfl]
 have hall:∀ i:Fin 23,(#[.string ⟨#[116,114,117,101]⟩,.string ⟨#[102,97,108,115,101]⟩,.string ⟨#[110,111,116]⟩,.string ⟨#[97,110,100]⟩,.string ⟨#[111,114]⟩,.string ⟨#[101,120,105,115,116,115]⟩,.string ⟨#[112,114,101,118]⟩,.string ⟨#[110,101,120,116]⟩,.string ⟨#[111,110,99,101]⟩,.string ⟨#[115,111,111,110]⟩,.string ⟨#[115,105,110,99,101]⟩,.string ⟨#[117,110,116,105,108]⟩,.string ⟨#[98,101,102,111,114,101]⟩,.string ⟨#[97,102,116,101,114]⟩,.string ⟨#[97,103,103]⟩,.string ⟨#[108,101,116]⟩,.string ⟨#[108,101,116,112,97,115,116]⟩,.string ⟨#[106,111,105,110]⟩,.string ⟨#[97,110,121]⟩,.string ⟨#[116,101,115,116]⟩,.string ⟨#[97,108,116]⟩,.string ⟨#[115,101,113]⟩,.string ⟨#[115,116,97,114]⟩]:Array Value)[i.1]? =some (.string ⟨(resv[i.1]'i.2).toArray⟩):=by
  intro i
  match i with
  | ⟨0,_⟩=>rfl
  | ⟨1,_⟩=>rfl
  | ⟨2,_⟩=>rfl
  | ⟨3,_⟩=>rfl
  | ⟨4,_⟩=>rfl
  | ⟨5,_⟩=>rfl
  | ⟨6,_⟩=>rfl
  | ⟨7,_⟩=>rfl
  | ⟨8,_⟩=>rfl
  | ⟨9,_⟩=>rfl
  | ⟨10,_⟩=>rfl
  | ⟨11,_⟩=>rfl
  | ⟨12,_⟩=>rfl
  | ⟨13,_⟩=>rfl
  | ⟨14,_⟩=>rfl
  | ⟨15,_⟩=>rfl
  | ⟨16,_⟩=>rfl
  | ⟨17,_⟩=>rfl
  | ⟨18,_⟩=>rfl
  | ⟨19,_⟩=>rfl
  | ⟨20,_⟩=>rfl
  | ⟨21,_⟩=>rfl
  | ⟨22,_⟩=>rfl
  | ⟨n+23,h⟩=>exact absurd h (by omega)
 exact hall ⟨i,hi⟩
theorem contains_drop (x:List UInt8) (L:List (List UInt8)) (k:Nat) (h:k<L.length):(L.drop k).contains x=(L[k]==x || (L.drop (k+1)).contains x):=by
 rw [List.drop_eq_getElem_cons h,List.contains_cons]
 congr 1
 exact BEq.comm
theorem rhas_any (V:Value) (L:List (List UInt8)) (x:ByteArray) (w:World) (hV:StrAt w V L) (lL:L.length≤1000000):
  Calls Tryz.prog 65 #[V,.string x] w fun e w'=>e=.returned (.bool (L.contains x.data.toList))∧w'=w:=by
 obtain ⟨b,c,rfl,hb,hc⟩:=hV
 have HC:Hid (∀ i (h:i<L.length),w.cell? ⟨b,i,none⟩=some (.string ⟨L[i].toArray⟩)):=hc
 clear hc
 obtain ⟨n,en⟩:∃ n:Nat,Hid (L.length=n):=⟨_,rfl⟩
 rw [en.out] at lL ⊢
 obtain ⟨R,eR⟩:∃ R:Bool,Hid (L.contains x.data.toList=R):=⟨_,rfl⟩
 rw [eR.out]
 go_enter Tryz.func65,Tryz.ntmps65
 go_wp2
 go_loop [5] (fun i=>∃ k:Nat,k≤n∧i=.int .i64 k∧Hid (R=(L.drop k).contains x.data.toList)) (fun i=>n - (intOf i).toNat)
 case atStart=>exact ⟨0,Nat.zero_le _,rfl,by rw [List.drop_zero];exact eR.out.symm⟩
 case round=>
  obtain ⟨k,hk,rfl,hr⟩:=hrel
  by_cases hlt:k<n
  ·have kx:k<L.length:=by have:=en.out;omega
   have a0:=HC.out k kx
   have hr2:Hid (R=(L[k]==x.data.toList || (L.drop (k+1)).contains x.data.toList)):=by
    have h:=hr.out
    rw [contains_drop _ _ _ kx] at h
    exact h
   have hlt':(k:Int)<n:=by omega
   clear hr
   generalize L[k]=y at a0 hr2
   by_cases hy:y=x.data.toList
   ·have hr3:Hid (R=true):=by unfold Hid;have h:=hr2.out;rw [hy] at h;simpa using h
    have hq:((⟨y.toArray⟩:ByteArray).toList==x.toList)=true:=by rw [ByteArray.toList_eq,ByteArray.toList_eq];simpa using hy
    generalize (⟨y.toArray⟩:ByteArray)=Y at a0 hq
    clear hr2 hy
    go_wp2
    go_ret
    exact ⟨retb hr3.out.symm,rfl⟩
   ·have hr3:Hid (R=(L.drop (k+1)).contains x.data.toList):=by
     have h:=hr2.out
     rw [beq_eq_false_iff_ne.mpr hy,Bool.false_or] at h
     exact h
    have hq:((⟨y.toArray⟩:ByteArray).toList==x.toList)=false:=by rw [ByteArray.toList_eq,ByteArray.toList_eq];simpa using hy
    generalize (⟨y.toArray⟩:ByteArray)=Y at a0 hq
    clear hr2 hy
    go_wp2
    exact ⟨⟨k+1,by omega,by go_num,hr3⟩,by simp [intOf];omega⟩
  ·have c2:¬ (k:Int)<n:=by omega
   have hr3:Hid (R=false):=by
    have h:=hr.out
    rw [List.drop_eq_nil_of_le (by have:=en.out;omega)] at h
    exact h
   go_wp2
   go_ret
   exact ⟨retb hr3.out.symm,rfl⟩
theorem nameL_no (l:List UInt8) (h:inAll l=false):nameL l=false:=by unfold nameL;rw [h,Bool.and_false]
theorem nameL_yes {l:List UInt8} (h1:1≤l.length) (h2:l.length≤16) (h3:lowN (hd l)=true) (h4:inAll l=true):nameL l= !resv.contains l:=by
 unfold nameL
 rw [h3,h4,decide_eq_true h1,decide_eq_true h2]
 simp
theorem rname_any (s:ByteArray) (w:World):
  Calls Tryz.prog 94 #[.string s] w fun e w'=>e=.returned (.bool (nameB s))∧Below w.heap.size w w':=by
 have hl:s.data.toList.length=s.size:=by simp
 obtain ⟨R,eR⟩:∃ R:Bool,Hid (nameB s=R):=⟨_,rfl⟩
 rw [eR.out]
 by_cases h0:s.size=0
 ·have hn:Hid (R=false):=by
   rw [← eR.out]
   have hs:s=⟨#[]⟩:=of_list (l:=[]) (List.eq_nil_of_length_eq_zero (by omega))
   rw [hs]
   rfl
  have h0':(s.size:Int)<1:=by omega
  go_enter Tryz.func94,Tryz.ntmps94
  go_wp2
  go_ret
  exact ⟨retb hn.out.symm,Below.refl _ _⟩
 have h0':¬ (s.size:Int)<1:=by omega
 by_cases h1:16<s.size
 ·have hn:Hid (R=false):=by
   rw [← eR.out]
   unfold Hid nameB
   cases h:nameL s.data.toList with
   | false=>rfl
   | true=>exact absurd (nameL_len h) (by omega)
  have h1':(16:Int)<s.size:=by omega
  go_enter Tryz.func94,Tryz.ntmps94
  go_wp2
  go_ret
  exact ⟨retb hn.out.symm,Below.refl _ _⟩
 have h1':¬ (16:Int)<s.size:=by omega
 have hp:0<s.size:=by omega
 have hp':(0:Int)<s.size:=by omega
 have hh:hd s.data.toList=s[0].toNat:=by simpa using hd_drop s 0 hp
 by_cases hb:lowN (hd s.data.toList)=true
 ·have hb1:97≤s[0].toNat∧s[0].toNat≤122:=by rw [hh] at hb;unfold lowN at hb;simpa using hb
  have b1:¬ ((s[0].toNat:Nat):Int)<97:=by omega
  have b2:¬ (122:Int)<((s[0].toNat:Nat):Int):=by omega
  have HY:Hid (inAll s.data.toList=true→R= !resv.contains s.data.toList):=fun h=>by rw [← eR.out];exact nameL_yes (by omega) (by omega) hb h
  have HN:Hid (inAll s.data.toList=false→R=false):=fun h=>by rw [← eR.out];exact nameL_no _ h
  have cW:Hid (∀ W:World,Calls Tryz.prog 124 #[] W fun e w'=>e=.returned (.slice (some ⟨W.heap.size,0,none⟩) 23 23)∧Below W.heap.size W w'∧StrAt w' (.slice (some ⟨W.heap.size,0,none⟩) 23 23) resv):=fun W=>words_any W
  clear hb hb1 hh eR hl
  go_enter Tryz.func94,Tryz.ntmps94
  go_wp2
  go_loop [3] (fun i=>∃ k:Nat,k≤s.size∧i=.int .i64 k∧Hid (inAll s.data.toList=inAll (s.data.toList.drop k))) (fun i=>s.size - (intOf i).toNat)
  case atStart=>exact ⟨0,Nat.zero_le _,rfl,by rw [List.drop_zero];exact (show inAll s.data.toList=inAll s.data.toList from rfl)⟩
  case round=>
   obtain ⟨k,hk,rfl,hrr⟩:=hrel
   by_cases hlt:k<s.size
   ·have hd1:s.data.toList.drop k=s[k]::s.data.toList.drop (k+1):=by
     rw [List.drop_eq_getElem_cons (by simpa using hlt)]
     rfl
    have hr2:Hid (inAll s.data.toList=(inwN s[k].toNat && inAll (s.data.toList.drop (k+1)))):=by
     have h:=hrr.out
     rw [hd1] at h
     exact h
    have hlt':(k:Int)<s.size:=by omega
    have hC:=s[k].toNat_lt
    clear hrr hd1
    obtain ⟨c,ec⟩:∃ c:Nat,Hid (s[k].toNat=c):=⟨s[k].toNat,(show _=_ from rfl)⟩
    rw [ec.out] at hr2 hC
    have ec2:=ec.out
    by_cases hI:inwN c=true
    ·have hr3:Hid (inAll s.data.toList=inAll (s.data.toList.drop (k+1))):=by
      have h:=hr2.out
      rw [hI,Bool.true_and] at h
      exact h
     have hx:(97≤c∧c≤122)∨((48≤c∧c≤57)∨c=95):=by
      unfold inwN lowN digN at hI
      simp at hI
      omega
     clear hI hr2
     rcases hx with ⟨x1,x2⟩ | ⟨x1,x2⟩ | x3
     ·have y1:¬ (c:Int)<97:=by omega
      have y2:¬ (122:Int)<c:=by omega
      go_wp2
      exact ⟨⟨k+1,by omega,by go_num,hr3⟩,by simp [intOf];omega⟩
     ·have y1:(c:Int)<97:=by omega
      have y2:¬ (c:Int)<48:=by omega
      have y3:¬ (57:Int)<c:=by omega
      go_wp2
      exact ⟨⟨k+1,by omega,by go_num,hr3⟩,by simp [intOf];omega⟩
     ·subst x3
      go_wp2
      exact ⟨⟨k+1,by omega,by go_num,hr3⟩,by simp [intOf];omega⟩
    ·have hI':inwN c=false:=by simpa using hI
     have hr3:Hid (R=false):=HN.out (by have h:=hr2.out;rw [hI',Bool.false_and] at h;exact h)
     have hx:(c<97∨122<c)∧(c<48∨57<c)∧c≠95:=by
      unfold inwN lowN digN at hI'
      simp at hI'
      omega
     have y3:((c:Int)==95)=false:=by simp;omega
     clear hI hI' hr2
     obtain ⟨hx1,hx2, -⟩:=hx
     rcases hx1 with x1 | x1
     ·have z1:(c:Int)<97:=by omega
      rcases hx2 with x2 | x2
      ·have z2:(c:Int)<48:=by omega
       go_wp2
       go_ret
       exact ⟨retb hr3.out.symm,Below.refl _ _⟩
      ·have z2:¬ (c:Int)<48:=by omega
       have z3:(57:Int)<c:=by omega
       go_wp2
       go_ret
       exact ⟨retb hr3.out.symm,Below.refl _ _⟩
     ·have z1:¬ (c:Int)<97:=by omega
      have z1':(122:Int)<c:=by omega
      have z2:¬ (c:Int)<48:=by omega
      have z3:(57:Int)<c:=by omega
      go_wp2
      go_ret
      exact ⟨retb hr3.out.symm,Below.refl _ _⟩
   ·have hlt':¬ (k:Int)<s.size:=by omega
    have hr3:Hid (R= !resv.contains s.data.toList):=HY.out (by
     have h:=hrr.out
     rw [List.drop_eq_nil_of_le (by simpa using hlt)] at h
     exact h)
    obtain ⟨Q,eQ⟩:∃ Q:Bool,Hid (resv.contains s.data.toList=Q):=⟨_,rfl⟩
    rw [eQ.out] at hr3
    go_wp2_with fail
    refine (cW.out _).mono ?_
    rintro e w1 ⟨rfl,hB1,hS1⟩
    have cH:Hid (Calls Tryz.prog 65 #[.slice (some ⟨w.heap.size,0,none⟩) 23 23,.string s] w1 fun e w'=>e=.returned (.bool Q)∧w'=w1):=by
     have h:=rhas_any _ resv s w1 hS1 (by decide)
     rw [eQ.out] at h
     exact h
    clear hS1 cW
    go_wp2_with fail
    refine cH.out.mono ?_
    rintro e w2 ⟨rfl,rfl⟩
    clear cH
    go_wp2
    go_ret
    exact ⟨retb hr3.out.symm,hB1⟩
 ·have hb':lowN (hd s.data.toList)=false:=by simpa using hb
  have hn:Hid (R=false):=by rw [← eR.out];unfold Hid nameB nameL;rw [hb'];simp
  have hb1:s[0].toNat<97∨122<s[0].toNat:=by
   rw [hh] at hb'
   unfold lowN at hb'
   simp at hb'
   omega
  clear hb hb' hh eR hl
  rcases hb1 with x1 | x1
  ·have b1:((s[0].toNat:Nat):Int)<97:=by omega
   go_enter Tryz.func94,Tryz.ntmps94
   go_wp2
   go_ret
   exact ⟨retb hn.out.symm,Below.refl _ _⟩
  ·have b1:¬ ((s[0].toNat:Nat):Int)<97:=by omega
   have b2:(122:Int)<((s[0].toNat:Nat):Int):=by omega
   go_enter Tryz.func94,Tryz.ntmps94
   go_wp2
   go_ret
   exact ⟨retb hn.out.symm,Below.refl _ _⟩
theorem contS_drop (x:ByteArray) (M:List ByteArray) (k:Nat) (h:k<M.length):Lib.containsS (M.drop k) x=(decide (M[k]=x) || Lib.containsS (M.drop (k+1)) x):=by
 rw [Bool.eq_iff_iff,Bool.or_eq_true,Lib.containsS_iff,Lib.containsS_iff,List.drop_eq_getElem_cons h,List.mem_cons,decide_eq_true_eq,eq_comm]
theorem contS_nil (x:ByteArray):Lib.containsS [] x=false:=by
 rw [Bool.eq_false_iff]
 intro h
 have:=(Lib.containsS_iff [] x).1 h
 simp at this
theorem rhasN_any (V:Value) (M:List ByteArray) (x:ByteArray) (w:World) (hV:NmsAt w V M):
  Calls Tryz.prog 65 #[V,.string x] w fun e w'=>e=.returned (.bool (Lib.containsS M x))∧w'=w:=by
 obtain ⟨p,c,rfl,hl,hc,HX0⟩:=hV.form
 have HX:Hid (∀ i (hi:i<M.length),∃ b off,p=some ⟨b,off,none⟩∧b<w.heap.size∧w.cell? ⟨b,off+i,none⟩=some (.string M[i])):=HX0
 clear hV HX0
 obtain ⟨n,en⟩:∃ n:Nat,Hid (M.length=n):=⟨_,rfl⟩
 obtain ⟨R,eR⟩:∃ R:Bool,Hid (Lib.containsS M x=R):=⟨_,rfl⟩
 rw [eR.out,en.out]
 rw [en.out] at hl hc
 go_enter Tryz.func65,Tryz.ntmps65
 go_wp2
 go_loop [5] (fun i=>∃ k:Nat,k≤n∧i=.int .i64 k∧Hid (R=Lib.containsS (M.drop k) x)) (fun i=>n - (intOf i).toNat)
 case atStart=>exact ⟨0,Nat.zero_le _,rfl,by rw [List.drop_zero];exact eR.out.symm⟩
 case round=>
  obtain ⟨k,hk,rfl,hr⟩:=hrel
  by_cases hlt:k<n
  ·have kx:k<M.length:=by have:=en.out;omega
   obtain ⟨b,off,rfl,hb,a0⟩:=HX.out k kx
   have hr2:Hid (R=(decide (M[k]=x) || Lib.containsS (M.drop (k+1)) x)):=by
    have h:=hr.out
    rw [contS_drop _ _ _ kx] at h
    exact h
   have hlt':(k:Int)<n:=by omega
   clear hr
   generalize M[k]=y at a0 hr2
   by_cases hy:y=x
   ·have hr3:Hid (R=true):=by unfold Hid;have h:=hr2.out;rw [hy] at h;simpa using h
    have hq:(y.toList==x.toList)=true:=by simp [hy]
    clear hr2 hy
    go_wp2
    go_ret
    exact ⟨retb hr3.out.symm,rfl⟩
   ·have hr3:Hid (R=Lib.containsS (M.drop (k+1)) x):=by
     have h:=hr2.out
     rw [decide_eq_false hy,Bool.false_or] at h
     exact h
    have hq:(y.toList==x.toList)=false:=by
     rw [beq_eq_false_iff_ne]
     intro h
     rw [ByteArray.toList_eq,ByteArray.toList_eq] at h
     exact hy (of_list h |>.trans (by cases x;simp))
    clear hr2 hy
    go_wp2
    exact ⟨⟨k+1,by omega,by go_num,hr3⟩,by simp [intOf];omega⟩
  ·have c2:¬ (k:Int)<n:=by omega
   have hr3:Hid (R=false):=by
    have h:=hr.out
    rw [List.drop_eq_nil_of_le (by have:=en.out;omega),contS_nil] at h
    exact h
   go_wp2
   go_ret
   exact ⟨retb hr3.out.symm,rfl⟩
theorem rtwice_any (V:Value) (vs:List ByteArray) (w:World) (hV:NmsAt w V vs):
  Calls Tryz.prog 64 #[V] w fun r w'=>r=.returned (.bool (repN [] vs))∧Below w.heap.size w w':=by
 have HV0:Hid (NmsAt w V vs):=hV
 obtain ⟨p,c,rfl,hl,hc,HX0⟩:=hV.form
 have HX:Hid (∀ i (hi:i<vs.length),∃ b off,p=some ⟨b,off,none⟩∧b<w.heap.size∧w.cell? ⟨b,off+i,none⟩=some (.string vs[i])):=HX0
 have cC:Hid (∀ (W:World) (k:Nat) (X:ByteArray),Below w.heap.size w W→k≤vs.length→Calls Tryz.prog 65 #[.slice p k c,.string X] W fun e w'=>e=.returned (.bool (Lib.containsS (vs.take k) X))∧w'=W):=fun W k X hW hk=>rhasN_any _ _ X W ((HV0.out.take k hk).below hW)
 clear hV HX0 HV0
 obtain ⟨R,eR⟩:∃ R:Bool,Hid (repN [] vs=R):=⟨_,rfl⟩
 obtain ⟨n,en⟩:∃ n:Nat,Hid (vs.length=n):=⟨_,rfl⟩
 rw [eR.out,en.out]
 rw [en.out] at hl hc
 go_enter Tryz.func64,Tryz.ntmps64
 go_wp2
 go_loopw [3] (fun i wr=>∃ k:Nat,k≤n∧i=.int .i64 k∧Hid (R=repN (vs.take k) (vs.drop k))∧Below w.heap.size w wr) (fun i _=>n - (intOf i).toNat)
 case atStart=>exact ⟨0,Nat.zero_le _,rfl,by rw [List.drop_zero];exact eR.out.symm,Below.refl _ _⟩
 case round=>
  obtain ⟨k,hk,rfl,hr,hB⟩:=hrel
  by_cases hlt:k<n
  ·have kx:k<vs.length:=by have:=en.out;omega
   obtain ⟨b,off,rfl,hb,r0⟩:=HX.out k kx
   have r1:wr.cell? ⟨b,off+k,none⟩=some (.string vs[k]):=(hB.cell (p:=⟨b,off+k,none⟩) hb).trans r0
   have hlt':(k:Int)<n:=by omega
   have hkc:(k:Int)≤c:=by omega
   have hr2:Hid (R=(Lib.containsS (vs.take k) vs[k] || repN (vs.take (k+1)) (vs.drop (k+1)))):=by
    have h:=hr.out
    rw [List.drop_eq_getElem_cons kx] at h
    rw [h,List.take_succ_eq_append_getElem kx]
    rfl
   clear hr
   have CC1:Hid (∀ m:Nat,Calls Tryz.prog 65 #[.slice (some ⟨b,off,none⟩) k c,.string vs[k]] (wr.drewN m) fun e w'=>e=.returned (.bool (Lib.containsS (vs.take k) vs[k]))∧w'=wr.drewN m):=fun m=>cC.out _ k vs[k] (bdrewA m hB) (by have:=en.out;omega)
   clear r0 cC
   generalize vs[k]=X at r1 hr2 CC1
   generalize Lib.containsS (vs.take k) X=CB at CC1 hr2
   go_upto_region 4 with fail
   go_quiet (first | (go_at_call 65;exact Calls.quiet_of_same (CC1.out _)))
   have K9:Below w.heap.size w (wr.drewN nq):=bdrewA nq hB
   clear CC1
   cases CB with
   | true=>
    have hr3:Hid (R=true):=by have h:=hr2.out;unfold Hid;simpa using h
    go_wp2
    go_ret
    exact ⟨retb hr3.out.symm,K9⟩
   | false=>
    have hr3:Hid (R=repN (vs.take (k+1)) (vs.drop (k+1))):=by have h:=hr2.out;unfold Hid;simpa using h
    go_wp2
    exact ⟨⟨k+1,by omega,by go_num,hr3,K9⟩,by simp [intOf];omega⟩
  ·have c2:¬ (k:Int)<n:=by omega
   have hr3:Hid (R=false):=by
    have h:=hr.out
    rw [List.drop_eq_nil_of_le (by have:=en.out;omega)] at h
    exact h
   go_wp2
   go_ret
   exact ⟨retb hr3.out.symm,hB⟩
theorem rnames_any (V:Value) (vs:List ByteArray) (w:World) (hV:NmsAt w V vs):
  Calls Tryz.prog 95 #[V] w fun r w'=>r=.returned (.bool (namesB vs))∧Below w.heap.size w w':=by
 obtain ⟨p,c,rfl,hl,hc,HX0⟩:=hV.form
 have HX:Hid (∀ i (hi:i<vs.length),∃ b off,p=some ⟨b,off,none⟩∧b<w.heap.size∧w.cell? ⟨b,off+i,none⟩=some (.string vs[i])):=HX0
 clear hV HX0
 obtain ⟨R,eR⟩:∃ R:Bool,Hid (namesB vs=R):=⟨_,rfl⟩
 obtain ⟨n,en⟩:∃ n:Nat,Hid (vs.length=n):=⟨_,rfl⟩
 rw [eR.out,en.out]
 rw [en.out] at hl hc
 go_enter Tryz.func95,Tryz.ntmps95
 go_wp2
 go_loopw [3] (fun i wr=>∃ k:Nat,k≤n∧i=.int .i64 k∧Hid (R=namesB (vs.drop k))∧Below w.heap.size w wr) (fun i _=>n - (intOf i).toNat)
 case atStart=>exact ⟨0,Nat.zero_le _,rfl,by rw [List.drop_zero];exact eR.out.symm,Below.refl _ _⟩
 case round=>
  obtain ⟨k,hk,rfl,hr,hB⟩:=hrel
  by_cases hlt:k<n
  ·have kx:k<vs.length:=by have:=en.out;omega
   obtain ⟨b,off,rfl,hb,r0⟩:=HX.out k kx
   have r1:wr.cell? ⟨b,off+k,none⟩=some (.string vs[k]):=(hB.cell (p:=⟨b,off+k,none⟩) hb).trans r0
   have hlt':(k:Int)<n:=by omega
   have hr2:Hid (R=(nameB vs[k] && namesB (vs.drop (k+1)))):=by
    have h:=hr.out
    rw [List.drop_eq_getElem_cons kx] at h
    rw [h]
    rfl
   clear hr r0
   have cN:Hid (∀ W:World,Calls Tryz.prog 94 #[.string vs[k]] W fun e w'=>e=.returned (.bool (nameB vs[k]))∧Below W.heap.size W w'):=fun W=>rname_any _ W
   generalize vs[k]=X at r1 hr2 cN
   generalize nameB X=CB at cN hr2
   go_wp2_with fail
   refine (cN.out _).mono ?_
   rintro e w2 ⟨rfl,hb2⟩
   have K9:Below w.heap.size w w2:=hB.trans (hb2.mono hB.size)
   clear cN hb2
   cases CB with
   | false=>
    have hr3:Hid (R=false):=by have h:=hr2.out;unfold Hid;simpa using h
    go_wp2
    go_ret
    exact ⟨retb hr3.out.symm,K9⟩
   | true=>
    have hr3:Hid (R=namesB (vs.drop (k+1))):=by have h:=hr2.out;unfold Hid;simpa using h
    go_wp2
    exact ⟨⟨k+1,by omega,by go_num,hr3,K9⟩,by simp [intOf];omega⟩
  ·have c2:¬ (k:Int)<n:=by omega
   have hr3:Hid (R=true):=by
    have h:=hr.out
    rw [List.drop_eq_nil_of_le (by have:=en.out;omega)] at h
    exact h
   go_wp2
   go_ret
   exact ⟨retb hr3.out.symm,hB⟩
structure Us where
 nm:Bool
 op:Bool
 iv:Bool
 v:Int
 t:Int
 s:Int
 r:Int
def usO (k:Int):Us:=if k=3 then ⟨true,false,false,0, -2,0,0⟩ else if k=4 then ⟨false,false,false,0,2,0,0⟩ else if k=5 then ⟨false,false,false,0,2,0,0⟩ else if k=6 then ⟨false,false,false,0,2,0,0⟩ else if k=7 then ⟨false,false,false,0,0,1,0⟩ else if k=8 then ⟨false,false,false,0,0,2,0⟩ else if k=9 then ⟨false,false,false,0,0,2,0⟩ else if k=10 then ⟨false,false,false, -1,0,1,0⟩ else if k=11 then ⟨false,false,true,0,0,1,0⟩ else if k=12 then ⟨false,false,true,0,0,1,0⟩ else if k=13 then ⟨false,false,true,0,0,1,0⟩ else if k=14 then ⟨false,false,true,0,0,1,0⟩ else if k=15 then ⟨false,false,true,0,0,2,0⟩ else if k=16 then ⟨false,false,true,0,0,2,0⟩ else if k=17 then ⟨false,false,true,0,0,0,1⟩ else if k=18 then ⟨false,false,true,0,0,0,1⟩ else if k=19 then ⟨true,true,false, -1,0,1,0⟩ else if k=20 then ⟨true,false,false, -2,0,2,0⟩ else if k=21 then ⟨true,false,false, -2,0,2,0⟩ else if k=22 then ⟨false,false,false,0,0, -1,0⟩ else ⟨false,false,false,0,0,0,0⟩
theorem uses_3 (w:World):Calls Tryz.prog 92 #[.int .i64 3] w fun e w'=>e=.returned (.agg #[.bool true,.bool false,.bool false,.int .i64 (0),.int .i64 (-2),.int .i64 (0),.int .i64 (0)])∧Below w.heap.size w w':=by
 go_enter Tryz.func92,Tryz.ntmps92
 go_wp2
 refine bodyPost_ret (by simp [results,Tryz.results92,go_sem];try rfl) rfl ?_
 exact ⟨by first | rfl | (simp;done),by go_grown⟩
theorem uses_4 (w:World):Calls Tryz.prog 92 #[.int .i64 4] w fun e w'=>e=.returned (.agg #[.bool false,.bool false,.bool false,.int .i64 (0),.int .i64 (2),.int .i64 (0),.int .i64 (0)])∧Below w.heap.size w w':=by
 go_enter Tryz.func92,Tryz.ntmps92
 go_wp2
 refine bodyPost_ret (by simp [results,Tryz.results92,go_sem];try rfl) rfl ?_
 exact ⟨by first | rfl | (simp;done),by go_grown⟩
theorem uses_5 (w:World):Calls Tryz.prog 92 #[.int .i64 5] w fun e w'=>e=.returned (.agg #[.bool false,.bool false,.bool false,.int .i64 (0),.int .i64 (2),.int .i64 (0),.int .i64 (0)])∧Below w.heap.size w w':=by
 go_enter Tryz.func92,Tryz.ntmps92
 go_wp2
 refine bodyPost_ret (by simp [results,Tryz.results92,go_sem];try rfl) rfl ?_
 exact ⟨by first | rfl | (simp;done),by go_grown⟩
theorem uses_6 (w:World):Calls Tryz.prog 92 #[.int .i64 6] w fun e w'=>e=.returned (.agg #[.bool false,.bool false,.bool false,.int .i64 (0),.int .i64 (2),.int .i64 (0),.int .i64 (0)])∧Below w.heap.size w w':=by
 go_enter Tryz.func92,Tryz.ntmps92
 go_wp2
 refine bodyPost_ret (by simp [results,Tryz.results92,go_sem];try rfl) rfl ?_
 exact ⟨by first | rfl | (simp;done),by go_grown⟩
theorem uses_7 (w:World):Calls Tryz.prog 92 #[.int .i64 7] w fun e w'=>e=.returned (.agg #[.bool false,.bool false,.bool false,.int .i64 (0),.int .i64 (0),.int .i64 (1),.int .i64 (0)])∧Below w.heap.size w w':=by
 go_enter Tryz.func92,Tryz.ntmps92
 go_wp2
 refine bodyPost_ret (by simp [results,Tryz.results92,go_sem];try rfl) rfl ?_
 exact ⟨by first | rfl | (simp;done),by go_grown⟩
theorem uses_8 (w:World):Calls Tryz.prog 92 #[.int .i64 8] w fun e w'=>e=.returned (.agg #[.bool false,.bool false,.bool false,.int .i64 (0),.int .i64 (0),.int .i64 (2),.int .i64 (0)])∧Below w.heap.size w w':=by
 go_enter Tryz.func92,Tryz.ntmps92
 go_wp2
 refine bodyPost_ret (by simp [results,Tryz.results92,go_sem];try rfl) rfl ?_
 exact ⟨by first | rfl | (simp;done),by go_grown⟩
theorem uses_9 (w:World):Calls Tryz.prog 92 #[.int .i64 9] w fun e w'=>e=.returned (.agg #[.bool false,.bool false,.bool false,.int .i64 (0),.int .i64 (0),.int .i64 (2),.int .i64 (0)])∧Below w.heap.size w w':=by
 go_enter Tryz.func92,Tryz.ntmps92
 go_wp2
 refine bodyPost_ret (by simp [results,Tryz.results92,go_sem];try rfl) rfl ?_
 exact ⟨by first | rfl | (simp;done),by go_grown⟩
theorem uses_10 (w:World):Calls Tryz.prog 92 #[.int .i64 10] w fun e w'=>e=.returned (.agg #[.bool false,.bool false,.bool false,.int .i64 (-1),.int .i64 (0),.int .i64 (1),.int .i64 (0)])∧Below w.heap.size w w':=by
 go_enter Tryz.func92,Tryz.ntmps92
 go_wp2
 refine bodyPost_ret (by simp [results,Tryz.results92,go_sem];try rfl) rfl ?_
 exact ⟨by first | rfl | (simp;done),by go_grown⟩
theorem uses_11 (w:World):Calls Tryz.prog 92 #[.int .i64 11] w fun e w'=>e=.returned (.agg #[.bool false,.bool false,.bool true,.int .i64 (0),.int .i64 (0),.int .i64 (1),.int .i64 (0)])∧Below w.heap.size w w':=by
 go_enter Tryz.func92,Tryz.ntmps92
 go_wp2
 refine bodyPost_ret (by simp [results,Tryz.results92,go_sem];try rfl) rfl ?_
 exact ⟨by first | rfl | (simp;done),by go_grown⟩
theorem uses_12 (w:World):Calls Tryz.prog 92 #[.int .i64 12] w fun e w'=>e=.returned (.agg #[.bool false,.bool false,.bool true,.int .i64 (0),.int .i64 (0),.int .i64 (1),.int .i64 (0)])∧Below w.heap.size w w':=by
 go_enter Tryz.func92,Tryz.ntmps92
 go_wp2
 refine bodyPost_ret (by simp [results,Tryz.results92,go_sem];try rfl) rfl ?_
 exact ⟨by first | rfl | (simp;done),by go_grown⟩
theorem uses_13 (w:World):Calls Tryz.prog 92 #[.int .i64 13] w fun e w'=>e=.returned (.agg #[.bool false,.bool false,.bool true,.int .i64 (0),.int .i64 (0),.int .i64 (1),.int .i64 (0)])∧Below w.heap.size w w':=by
 go_enter Tryz.func92,Tryz.ntmps92
 go_wp2
 refine bodyPost_ret (by simp [results,Tryz.results92,go_sem];try rfl) rfl ?_
 exact ⟨by first | rfl | (simp;done),by go_grown⟩
theorem uses_14 (w:World):Calls Tryz.prog 92 #[.int .i64 14] w fun e w'=>e=.returned (.agg #[.bool false,.bool false,.bool true,.int .i64 (0),.int .i64 (0),.int .i64 (1),.int .i64 (0)])∧Below w.heap.size w w':=by
 go_enter Tryz.func92,Tryz.ntmps92
 go_wp2
 refine bodyPost_ret (by simp [results,Tryz.results92,go_sem];try rfl) rfl ?_
 exact ⟨by first | rfl | (simp;done),by go_grown⟩
theorem uses_15 (w:World):Calls Tryz.prog 92 #[.int .i64 15] w fun e w'=>e=.returned (.agg #[.bool false,.bool false,.bool true,.int .i64 (0),.int .i64 (0),.int .i64 (2),.int .i64 (0)])∧Below w.heap.size w w':=by
 go_enter Tryz.func92,Tryz.ntmps92
 go_wp2
 refine bodyPost_ret (by simp [results,Tryz.results92,go_sem];try rfl) rfl ?_
 exact ⟨by first | rfl | (simp;done),by go_grown⟩
theorem uses_16 (w:World):Calls Tryz.prog 92 #[.int .i64 16] w fun e w'=>e=.returned (.agg #[.bool false,.bool false,.bool true,.int .i64 (0),.int .i64 (0),.int .i64 (2),.int .i64 (0)])∧Below w.heap.size w w':=by
 go_enter Tryz.func92,Tryz.ntmps92
 go_wp2
 refine bodyPost_ret (by simp [results,Tryz.results92,go_sem];try rfl) rfl ?_
 exact ⟨by first | rfl | (simp;done),by go_grown⟩
theorem uses_17 (w:World):Calls Tryz.prog 92 #[.int .i64 17] w fun e w'=>e=.returned (.agg #[.bool false,.bool false,.bool true,.int .i64 (0),.int .i64 (0),.int .i64 (0),.int .i64 (1)])∧Below w.heap.size w w':=by
 go_enter Tryz.func92,Tryz.ntmps92
 go_wp2
 refine bodyPost_ret (by simp [results,Tryz.results92,go_sem];try rfl) rfl ?_
 exact ⟨by first | rfl | (simp;done),by go_grown⟩
theorem uses_18 (w:World):Calls Tryz.prog 92 #[.int .i64 18] w fun e w'=>e=.returned (.agg #[.bool false,.bool false,.bool true,.int .i64 (0),.int .i64 (0),.int .i64 (0),.int .i64 (1)])∧Below w.heap.size w w':=by
 go_enter Tryz.func92,Tryz.ntmps92
 go_wp2
 refine bodyPost_ret (by simp [results,Tryz.results92,go_sem];try rfl) rfl ?_
 exact ⟨by first | rfl | (simp;done),by go_grown⟩
theorem uses_19 (w:World):Calls Tryz.prog 92 #[.int .i64 19] w fun e w'=>e=.returned (.agg #[.bool true,.bool true,.bool false,.int .i64 (-1),.int .i64 (0),.int .i64 (1),.int .i64 (0)])∧Below w.heap.size w w':=by
 go_enter Tryz.func92,Tryz.ntmps92
 go_wp2
 refine bodyPost_ret (by simp [results,Tryz.results92,go_sem];try rfl) rfl ?_
 exact ⟨by first | rfl | (simp;done),by go_grown⟩
theorem uses_20 (w:World):Calls Tryz.prog 92 #[.int .i64 20] w fun e w'=>e=.returned (.agg #[.bool true,.bool false,.bool false,.int .i64 (-2),.int .i64 (0),.int .i64 (2),.int .i64 (0)])∧Below w.heap.size w w':=by
 go_enter Tryz.func92,Tryz.ntmps92
 go_wp2
 refine bodyPost_ret (by simp [results,Tryz.results92,go_sem];try rfl) rfl ?_
 exact ⟨by first | rfl | (simp;done),by go_grown⟩
theorem uses_21 (w:World):Calls Tryz.prog 92 #[.int .i64 21] w fun e w'=>e=.returned (.agg #[.bool true,.bool false,.bool false,.int .i64 (-2),.int .i64 (0),.int .i64 (2),.int .i64 (0)])∧Below w.heap.size w w':=by
 go_enter Tryz.func92,Tryz.ntmps92
 go_wp2
 refine bodyPost_ret (by simp [results,Tryz.results92,go_sem];try rfl) rfl ?_
 exact ⟨by first | rfl | (simp;done),by go_grown⟩
theorem uses_22 (w:World):Calls Tryz.prog 92 #[.int .i64 22] w fun e w'=>e=.returned (.agg #[.bool false,.bool false,.bool false,.int .i64 (0),.int .i64 (0),.int .i64 (-1),.int .i64 (0)])∧Below w.heap.size w w':=by
 go_enter Tryz.func92,Tryz.ntmps92
 go_wp2
 refine bodyPost_ret (by simp [results,Tryz.results92,go_sem];try rfl) rfl ?_
 exact ⟨by first | rfl | (simp;done),by go_grown⟩
theorem uses_no (k:Int) (w:World) (h:k<3∨22<k):Calls Tryz.prog 92 #[.int .i64 k] w fun e w'=>e=.returned (.agg #[.bool false,.bool false,.bool false,.int .i64 (0),.int .i64 (0),.int .i64 (0),.int .i64 (0)])∧Below w.heap.size w w':=by
 have k3:(k==3)=false:=by simp;omega
 have k4:(k==4)=false:=by simp;omega
 have k5:(k==5)=false:=by simp;omega
 have k6:(k==6)=false:=by simp;omega
 have k7:(k==7)=false:=by simp;omega
 have k8:(k==8)=false:=by simp;omega
 have k9:(k==9)=false:=by simp;omega
 have k10:(k==10)=false:=by simp;omega
 have k11:(k==11)=false:=by simp;omega
 have k12:(k==12)=false:=by simp;omega
 have k13:(k==13)=false:=by simp;omega
 have k14:(k==14)=false:=by simp;omega
 have k15:(k==15)=false:=by simp;omega
 have k16:(k==16)=false:=by simp;omega
 have k17:(k==17)=false:=by simp;omega
 have k18:(k==18)=false:=by simp;omega
 have k19:(k==19)=false:=by simp;omega
 have k20:(k==20)=false:=by simp;omega
 have k21:(k==21)=false:=by simp;omega
 have k22:(k==22)=false:=by simp;omega
 go_enter Tryz.func92,Tryz.ntmps92
 go_wp2
 refine bodyPost_ret (by simp [results,Tryz.results92,go_sem];try rfl) rfl ?_
 exact ⟨by first | rfl | (simp;done),by go_grown⟩
theorem ruses_any (k:Int) (w:World):Calls Tryz.prog 92 #[.int .i64 k] w fun e w'=>e=.returned (.agg #[.bool (usO k).nm,.bool (usO k).op,.bool (usO k).iv,.int .i64 (usO k).v,.int .i64 (usO k).t,.int .i64 (usO k).s,.int .i64 (usO k).r])∧Below w.heap.size w w':=by
 by_cases h:k<3∨22<k
 ·have e:usO k=⟨false,false,false,0,0,0,0⟩:=by
   unfold usO
   rw [if_neg (by omega),if_neg (by omega),if_neg (by omega),if_neg (by omega),if_neg (by omega),if_neg (by omega),if_neg (by omega),if_neg (by omega),if_neg (by omega),if_neg (by omega),if_neg (by omega),if_neg (by omega),if_neg (by omega),if_neg (by omega),if_neg (by omega),if_neg (by omega),if_neg (by omega),if_neg (by omega),if_neg (by omega),if_neg (by omega)]
  rw [e]
  exact uses_no k w h
 have hk:k=3∨k=4∨k=5∨k=6∨k=7∨k=8∨k=9∨k=10∨k=11∨k=12∨k=13∨k=14∨k=15∨k=16∨k=17∨k=18∨k=19∨k=20∨k=21∨k=22:=by omega
 rcases hk with rfl | rfl | rfl | rfl | rfl | rfl | rfl | rfl | rfl | rfl | rfl | rfl | rfl | rfl | rfl | rfl | rfl | rfl | rfl | rfl
 ·exact uses_3 w
 ·exact uses_4 w
 ·exact uses_5 w
 ·exact uses_6 w
 ·exact uses_7 w
 ·exact uses_8 w
 ·exact uses_9 w
 ·exact uses_10 w
 ·exact uses_11 w
 ·exact uses_12 w
 ·exact uses_13 w
 ·exact uses_14 w
 ·exact uses_15 w
 ·exact uses_16 w
 ·exact uses_17 w
 ·exact uses_18 w
 ·exact uses_19 w
 ·exact uses_20 w
 ·exact uses_21 w
 ·exact uses_22 w
def soB (n want:Int):Bool:=if want= -2 then true else if want= -1 then decide (0<n) else n==want
theorem rso_any (n want:Int) (w:World):Calls Tryz.prog 93 #[.int .i64 n,.int .i64 want] w fun e w'=>e=.returned (.bool (soB n want))∧w'=w:=by
 by_cases h2:want= -2
 ·subst h2
  go_enter Tryz.func93,Tryz.ntmps93
  go_wp2
  go_ret
  exact ⟨rfl,rfl⟩
 by_cases h1:want= -1
 ·subst h1
  go_enter Tryz.func93,Tryz.ntmps93
  go_wp2
  go_ret
  exact ⟨by first | rfl | simp [soB],rfl⟩
 have e:soB n want=(n==want):=by unfold soB;rw [if_neg h2,if_neg h1]
 have k2:(want== -2)=false:=by simp [h2]
 have k1:(want== -1)=false:=by simp [h1]
 rw [e]
 go_enter Tryz.func93,Tryz.ntmps93
 go_wp2
 go_ret
 exact ⟨by first | rfl | simp,rfl⟩
theorem rinterval_any (lo hi:Int) (o:Bool) (w:World):Calls Tryz.prog 96 #[.agg #[.int .i64 lo,.int .i64 hi,.bool o]] w fun r w'=>r=.returned (.bool (itvU lo hi o))∧Below w.heap.size w w':=by
 have e:itvU lo hi o=if lo<0∨1099511627776<lo then false else if o=true then hi==0 else decide (lo≤hi∧hi≤1099511627776):=rfl
 rw [e]
 by_cases h1:lo<0
 ·rw [if_pos (Or.inl h1)]
  go_enter Tryz.func96,Tryz.ntmps96
  go_wp2
  go_ret
  exact ⟨by first | rfl | simp,by go_grown⟩
 by_cases h2:1099511627776<lo
 ·rw [if_pos (Or.inr h2)]
  go_enter Tryz.func96,Tryz.ntmps96
  go_wp2
  go_ret
  exact ⟨by first | rfl | simp,by go_grown⟩
 rw [if_neg (by omega)]
 cases o with
 | true=>
  rw [if_pos rfl]
  go_enter Tryz.func96,Tryz.ntmps96
  go_wp2
  go_ret
  exact ⟨by first | rfl | simp,by go_grown⟩
 | false=>
  rw [if_neg (by decide)]
  by_cases h3:lo≤hi
  ·by_cases h4:hi≤1099511627776
   ·rw [decide_eq_true (show lo≤hi∧hi≤1099511627776 from ⟨h3,h4⟩)]
    go_enter Tryz.func96,Tryz.ntmps96
    go_wp2
    go_ret
    exact ⟨by first | rfl | simp,by go_grown⟩
   ·rw [decide_eq_false (show ¬ (lo≤hi∧hi≤1099511627776) from fun h=>h4 h.2)]
    go_enter Tryz.func96,Tryz.ntmps96
    go_wp2
    go_ret
    exact ⟨by first | rfl | simp,by go_grown⟩
  ·rw [decide_eq_false (show ¬ (lo≤hi∧hi≤1099511627776) from fun h=>h3 h.1)]
   go_enter Tryz.func96,Tryz.ntmps96
   go_wp2
   go_ret
   exact ⟨by first | rfl | simp,by go_grown⟩
theorem rmany_any (k op lo hi:Int) (nm:ByteArray) (o:Bool) (pv pt ps pr:Option Addr) (nv cv nt ct ns cs nr cr:Nat) (w:World):
  Calls Tryz.prog 61 #[.agg #[.int .i64 k,.string nm,.int .i64 op,.slice pv nv cv,.slice pt nt ct,.int .i64 lo,.int .i64 hi,.bool o,.slice ps ns cs,.slice pr nr cr]] w fun r w'=>r=.returned (.bool (manyB k nv nt))∧Below w.heap.size w w':=by
 have hv6:=dec_lt 6 nv
 have hv8:=dec_lt 8 nv
 have ht6:=dec_lt 6 nt
 obtain ⟨R,eR⟩:∃ R:Bool,Hid (manyB k nv nt=R):=⟨_,rfl⟩
 rw [eR.out]
 have hR:Hid (R=if k=3 then decide (6<nt) else if k=20∨k=21 then decide (6<nv) else if k=10∨k=19 then decide (8<nv) else false):=eR.out.symm
 clear eR
 by_cases h3:k=3
 ·have hR2:Hid (R=decide (6<nt)):=by have h:=hR.out;rwa [if_pos h3] at h
  subst h3
  rw [hR2.out]
  go_enter Tryz.func61,Tryz.ntmps61
  go_wp2
  go_ret
  exact ⟨by first | rfl | (simp;done) | (simp;omega),by go_grown⟩
 by_cases h20:k=20∨k=21
 ·have hR2:Hid (R=decide (6<nv)):=by have h:=hR.out;rwa [if_neg h3,if_pos h20] at h
  rw [hR2.out]
  rcases h20 with rfl | rfl<;>
  ·go_enter Tryz.func61,Tryz.ntmps61
   go_wp2
   go_ret
   exact ⟨by first | rfl | (simp;done) | (simp;omega),by go_grown⟩
 by_cases h10:k=10∨k=19
 ·have hR2:Hid (R=decide (8<nv)):=by have h:=hR.out;rwa [if_neg h3,if_neg h20,if_pos h10] at h
  rw [hR2.out]
  rcases h10 with rfl | rfl<;>
  ·go_enter Tryz.func61,Tryz.ntmps61
   go_wp2
   go_ret
   exact ⟨by first | rfl | (simp;done) | (simp;omega),by go_grown⟩
 have hR2:Hid (R=false):=by have h:=hR.out;rwa [if_neg h3,if_neg h20,if_neg h10] at h
 rw [hR2.out]
 have k3:(k==3)=false:=by simp;omega
 have k20:(k==20)=false:=by simp;omega
 have k21:(k==21)=false:=by simp;omega
 have k10:(k==10)=false:=by simp;omega
 have k19:(k==19)=false:=by simp;omega
 go_enter Tryz.func61,Tryz.ntmps61
 go_wp2
 go_ret
 exact ⟨by first | rfl | (simp;done) | (simp;omega),by go_grown⟩
theorem blkB {W W':World} {B:Nat} {o:Obj} (h:W.heap[B]? =some o) (hb:Below W.heap.size W W'):W'.heap[B]? =some o:=(hb.block B (Array.getElem?_eq_some_iff.1 h).1).trans h
theorem blkL {W:World} {B:Nat} {o:Obj} (h:W.heap[B]? =some o):B<W.heap.size:=(Array.getElem?_eq_some_iff.1 h).1
theorem box10 {w:World} {n:Nat} {c0 c1 c2 c3 c4 c5 c6 c7 c8 c9:Value} {T:Nat} (h:w.heap[n]? =some (.cells #[c0,c1,c2,c3,c4,c5,c6,c7,c8,c9] T (0,0))):w.cell? ⟨n,0,none⟩=some c0∧w.cell? ⟨n,1,none⟩=some c1∧w.cell? ⟨n,2,none⟩=some c2∧w.cell? ⟨n,3,none⟩=some c3∧w.cell? ⟨n,4,none⟩=some c4∧w.cell? ⟨n,5,none⟩=some c5∧w.cell? ⟨n,6,none⟩=some c6∧w.cell? ⟨n,7,none⟩=some c7∧w.cell? ⟨n,8,none⟩=some c8∧w.cell? ⟨n,9,none⟩=some c9:=by
 have e:∀ i,w.cell? ⟨n,i,none⟩=(#[c0,c1,c2,c3,c4,c5,c6,c7,c8,c9]:Array Value)[i]?:=fun i=>Lib.cell_of_heap h i
 exact ⟨(e 0).trans rfl,(e 1).trans rfl,(e 2).trans rfl,(e 3).trans rfl,(e 4).trans rfl,(e 5).trans rfl,(e 6).trans rfl,(e 7).trans rfl,(e 8).trans rfl,(e 9).trans rfl⟩
def namedB (u:Us) (nm:ByteArray) (vs:List ByteArray) (lo hi:Int) (o:Bool):Bool:=(!u.nm || nameB nm) && namesB vs && (!u.iv || itvU lo hi o)
theorem rnamed_any (k op lo hi:Int) (nm:ByteArray) (o:Bool) (vs:List ByteArray) (pv pt ps pr:Option Addr) (nv cv nt ct ns cs nr cr:Nat) (w:World) (hV:NmsAt w (.slice pv nv cv) vs):
  Calls Tryz.prog 63 #[.agg #[.int .i64 k,.string nm,.int .i64 op,.slice pv nv cv,.slice pt nt ct,.int .i64 lo,.int .i64 hi,.bool o,.slice ps ns cs,.slice pr nr cr]] w fun r w'=>r=.returned (.bool (namedB (usO k) nm vs lo hi o))∧Below w.heap.size w w':=by
 have cU:Hid (∀ W:World,Calls Tryz.prog 92 #[.int .i64 k] W fun e w'=>e=.returned (.agg #[.bool (usO k).nm,.bool (usO k).op,.bool (usO k).iv,.int .i64 (usO k).v,.int .i64 (usO k).t,.int .i64 (usO k).s,.int .i64 (usO k).r])∧Below W.heap.size W w'):=fun W=>ruses_any k W
 have cN:Hid (∀ W:World,Calls Tryz.prog 94 #[.string nm] W fun e w'=>e=.returned (.bool (nameB nm))∧Below W.heap.size W w'):=fun W=>rname_any nm W
 have cS:Hid (∀ W:World,Below w.heap.size w W→Calls Tryz.prog 95 #[.slice pv nv cv] W fun e w'=>e=.returned (.bool (namesB vs))∧Below W.heap.size W w'):=fun W hW=>rnames_any _ vs W (hV.below hW)
 have cI:Hid (∀ W:World,Calls Tryz.prog 96 #[.agg #[.int .i64 lo,.int .i64 hi,.bool o]] W fun e w'=>e=.returned (.bool (itvU lo hi o))∧Below W.heap.size W w'):=fun W=>rinterval_any lo hi o W
 clear hV
 unfold namedB
 generalize nameB nm=A at*
 generalize namesB vs=B at*
 generalize itvU lo hi o=C at*
 generalize (usO k).nm=un at*
 generalize (usO k).op=uo at*
 generalize (usO k).iv=ui at*
 generalize (usO k).v=uv at*
 generalize (usO k).t=ut at*
 generalize (usO k).s=us at*
 generalize (usO k).r=ur at*
 go_enter Tryz.func63,Tryz.ntmps63
 go_wp2_with fail
 refine (cU.out _).mono ?_
 rintro r w1 ⟨rfl,hb1⟩
 have hB1:Below w.heap.size w w1:=Below.trans (by go_grown) (hb1.mono (by simp))
 have HX1:Hid (w1.heap[w.heap.size]? =_):=(hb1.block w.heap.size (by simp)).trans (heap_allocA w _)
 have hs1:w.heap.size<w1.heap.size:=blkL HX1.out
 clear hb1 cU
 have e0:w1.cell? ⟨w.heap.size,0,none⟩=some (.int .i64 k):=by rw [Lib.cell_of_heap HX1.out];rfl
 have e1:w1.cell? ⟨w.heap.size,1,none⟩=some (.string nm):=by rw [Lib.cell_of_heap HX1.out];rfl
 have e2:w1.cell? ⟨w.heap.size,2,none⟩=some (.int .i64 op):=by rw [Lib.cell_of_heap HX1.out];rfl
 have e3:w1.cell? ⟨w.heap.size,3,none⟩=some (.slice pv nv cv):=by rw [Lib.cell_of_heap HX1.out];rfl
 have e4:w1.cell? ⟨w.heap.size,4,none⟩=some (.slice pt nt ct):=by rw [Lib.cell_of_heap HX1.out];rfl
 have e5:w1.cell? ⟨w.heap.size,5,none⟩=some (.int .i64 lo):=by rw [Lib.cell_of_heap HX1.out];rfl
 have e6:w1.cell? ⟨w.heap.size,6,none⟩=some (.int .i64 hi):=by rw [Lib.cell_of_heap HX1.out];rfl
 have e7:w1.cell? ⟨w.heap.size,7,none⟩=some (.bool o):=by rw [Lib.cell_of_heap HX1.out];rfl
 have e8:w1.cell? ⟨w.heap.size,8,none⟩=some (.slice ps ns cs):=by rw [Lib.cell_of_heap HX1.out];rfl
 have e9:w1.cell? ⟨w.heap.size,9,none⟩=some (.slice pr nr cr):=by rw [Lib.cell_of_heap HX1.out];rfl
 go_wp2_with fail
 refine (cN.out _).mono ?_
 rintro r w2 ⟨rfl,hb2⟩
 have HU2:Hid (w2.heap[w1.heap.size]? =_):=(hb2.block w1.heap.size (by simp)).trans (heap_allocA w1 _)
 obtain ⟨B2,n2⟩:=bgX (n:=w1.heap.size) (W0:=w1) (by go_grown) (by go_size) hb2
 have hB2:Below w.heap.size w w2:=hB1.trans (B2.mono hB1.size)
 have HX2:Hid (w2.heap[w.heap.size]? =some (.cells #[.int .i64 k,.string nm,.int .i64 op,.slice pv nv cv,.slice pt nt ct,.int .i64 lo,.int .i64 hi,.bool o,.slice ps ns cs,.slice pr nr cr] 29 (0,0))):=blkB HX1.out B2
 clear hb2 B2 n2 HX1 cN e0 e1 e2 e3 e4 e5 e6 e7 e8 e9
 have e0:w2.cell? ⟨w.heap.size,0,none⟩=some (.int .i64 k):=by rw [Lib.cell_of_heap HX2.out];rfl
 have e1:w2.cell? ⟨w.heap.size,1,none⟩=some (.string nm):=by rw [Lib.cell_of_heap HX2.out];rfl
 have e2:w2.cell? ⟨w.heap.size,2,none⟩=some (.int .i64 op):=by rw [Lib.cell_of_heap HX2.out];rfl
 have e3:w2.cell? ⟨w.heap.size,3,none⟩=some (.slice pv nv cv):=by rw [Lib.cell_of_heap HX2.out];rfl
 have e4:w2.cell? ⟨w.heap.size,4,none⟩=some (.slice pt nt ct):=by rw [Lib.cell_of_heap HX2.out];rfl
 have e5:w2.cell? ⟨w.heap.size,5,none⟩=some (.int .i64 lo):=by rw [Lib.cell_of_heap HX2.out];rfl
 have e6:w2.cell? ⟨w.heap.size,6,none⟩=some (.int .i64 hi):=by rw [Lib.cell_of_heap HX2.out];rfl
 have e7:w2.cell? ⟨w.heap.size,7,none⟩=some (.bool o):=by rw [Lib.cell_of_heap HX2.out];rfl
 have e8:w2.cell? ⟨w.heap.size,8,none⟩=some (.slice ps ns cs):=by rw [Lib.cell_of_heap HX2.out];rfl
 have e9:w2.cell? ⟨w.heap.size,9,none⟩=some (.slice pr nr cr):=by rw [Lib.cell_of_heap HX2.out];rfl
 go_wp2_with fail
 refine (cS.out _ hB2).mono ?_
 rintro r w3 ⟨rfl,hb3⟩
 have hB3:Below w.heap.size w w3:=hB2.trans (hb3.mono hB2.size)
 have HX3:Hid (w3.heap[w.heap.size]? =some (.cells #[.int .i64 k,.string nm,.int .i64 op,.slice pv nv cv,.slice pt nt ct,.int .i64 lo,.int .i64 hi,.bool o,.slice ps ns cs,.slice pr nr cr] 29 (0,0))):=blkB HX2.out hb3
 have HU3:Hid (w3.heap[w1.heap.size]? =some (.cells #[.bool un,.bool uo,.bool ui,.int .i64 uv,.int .i64 ut,.int .i64 us,.int .i64 ur] 126 (0,0))):=blkB HU2.out hb3
 clear hb3 HX2 HU2 cS e0 e1 e2 e3 e4 e5 e6 e7 e8 e9
 have e0:w3.cell? ⟨w.heap.size,0,none⟩=some (.int .i64 k):=by rw [Lib.cell_of_heap HX3.out];rfl
 have e1:w3.cell? ⟨w.heap.size,1,none⟩=some (.string nm):=by rw [Lib.cell_of_heap HX3.out];rfl
 have e2:w3.cell? ⟨w.heap.size,2,none⟩=some (.int .i64 op):=by rw [Lib.cell_of_heap HX3.out];rfl
 have e3:w3.cell? ⟨w.heap.size,3,none⟩=some (.slice pv nv cv):=by rw [Lib.cell_of_heap HX3.out];rfl
 have e4:w3.cell? ⟨w.heap.size,4,none⟩=some (.slice pt nt ct):=by rw [Lib.cell_of_heap HX3.out];rfl
 have e5:w3.cell? ⟨w.heap.size,5,none⟩=some (.int .i64 lo):=by rw [Lib.cell_of_heap HX3.out];rfl
 have e6:w3.cell? ⟨w.heap.size,6,none⟩=some (.int .i64 hi):=by rw [Lib.cell_of_heap HX3.out];rfl
 have e7:w3.cell? ⟨w.heap.size,7,none⟩=some (.bool o):=by rw [Lib.cell_of_heap HX3.out];rfl
 have e8:w3.cell? ⟨w.heap.size,8,none⟩=some (.slice ps ns cs):=by rw [Lib.cell_of_heap HX3.out];rfl
 have e9:w3.cell? ⟨w.heap.size,9,none⟩=some (.slice pr nr cr):=by rw [Lib.cell_of_heap HX3.out];rfl
 go_wp2_with fail
 refine (cI.out _).mono ?_
 rintro r w4 ⟨rfl,hb4⟩
 have hB4:Below w.heap.size w w4:=hB3.trans (hb4.mono hB3.size)
 have HU4:Hid (w4.heap[w1.heap.size]? =some (.cells #[.bool un,.bool uo,.bool ui,.int .i64 uv,.int .i64 ut,.int .i64 us,.int .i64 ur] 126 (0,0))):=blkB HU3.out hb4
 clear hb4 HX3 HU3 cI e0 e1 e2 e3 e4 e5 e6 e7 e8 e9
 have g0:w4.cell? ⟨w1.heap.size,0,none⟩=some (.bool un):=by rw [Lib.cell_of_heap HU4.out];rfl
 have g1:w4.cell? ⟨w1.heap.size,1,none⟩=some (.bool uo):=by rw [Lib.cell_of_heap HU4.out];rfl
 have g2:w4.cell? ⟨w1.heap.size,2,none⟩=some (.bool ui):=by rw [Lib.cell_of_heap HU4.out];rfl
 have g3:w4.cell? ⟨w1.heap.size,3,none⟩=some (.int .i64 uv):=by rw [Lib.cell_of_heap HU4.out];rfl
 have g4:w4.cell? ⟨w1.heap.size,4,none⟩=some (.int .i64 ut):=by rw [Lib.cell_of_heap HU4.out];rfl
 have g5:w4.cell? ⟨w1.heap.size,5,none⟩=some (.int .i64 us):=by rw [Lib.cell_of_heap HU4.out];rfl
 have g6:w4.cell? ⟨w1.heap.size,6,none⟩=some (.int .i64 ur):=by rw [Lib.cell_of_heap HU4.out];rfl
 clear HU4
 cases un<;>cases A<;>cases B<;>cases ui<;>cases C<;>
 ·go_wp2
  go_ret
  exact ⟨rfl,hB4⟩
theorem alloc_size (w:World) (o:Obj):(w.alloc o).heap.size=w.heap.size+1:=by simp
theorem fms_two {W:World} {b:Nat} {f g:Fm} {q r:FQ} (hb:b<W.heap.size) (hq:QAt W (f,q)) (hr:QAt W (g,r)) (hc:FmC W b 0 f q.v q.t q.s q.r) (hd:FmC W b 10 g r.v r.t r.s r.r):FmsAt W (.slice (some ⟨b,0,none⟩) 2 2) [f,g]:=by
 refine .row (b:=b) (off:=0) (fs:=[f,g]) (fun i=>if i=0 then q.v else r.v) (fun i=>if i=0 then q.t else r.t) (fun i=>if i=0 then q.s else r.s) (fun i=>if i=0 then q.r else r.r) (by simp) (by simp) hb ?_ ?_ ?_ ?_ ?_<;>intro i hi
 ·rcases i with _ | _ | i
  ·exact hc
  ·exact hd
  ·simp at hi;omega
 ·rcases i with _ | _ | i
  ·exact hq.1
  ·exact hr.1
  ·simp at hi;omega
 ·rcases i with _ | _ | i
  ·exact hq.2.1
  ·exact hr.2.1
  ·simp at hi;omega
 ·rcases i with _ | _ | i
  ·exact hq.2.2.1
  ·exact hr.2.2.1
  ·simp at hi;omega
 ·rcases i with _ | _ | i
  ·exact hq.2.2.2
  ·exact hr.2.2.2
  ·simp at hi;omega
theorem nms_nil (W:World):NmsAt W (.slice none 0 0) []:=⟨by simp,none,0,rfl,by simp,Or.inl rfl⟩
end Go.Proofs.YthodedagbbifbaaGreat
namespace Go.Proofs.YthodedagbbifbaaGreat
open Go.RowKit LX Go.Shelf Go.Sort
set_option linter.unusedVariables false
theorem judged_any (f:Fm) (q:FQ) (w:World) (hq:QAt w (f,q)):
  Calls Tryz.prog 22 #[.agg #[.int .i64 f.k,.string f.nm,.int .i64 f.op,q.v,q.t,.int .i64 f.lo,.int .i64 f.hi,.bool f.opn,q.s,q.r]] w fun e w'=>∃ pv nv cv a pb nb cb,e=.returned (.tuple #[.agg #[.slice pv nv cv,.bool a,.int .i64 (stR f),.slice pb nb cb],.int .i64 (stE f)])∧Below w.heap.size w w':=by
 have cC:Hid (∀ W:World,Below w.heap.size w W→Calls Tryz.prog 25 #[.agg #[.int .i64 f.k,.string f.nm,.int .i64 f.op,q.v,q.t,.int .i64 f.lo,.int .i64 f.hi,.bool f.opn,q.s,q.r]] W fun r w'=>r=.returned (.int .i64 (chkF f))∧Below W.heap.size W w'):=fun W hW=>check_fm f q W (hq.below hW)
 have cP:Hid (chkF f=0→∀ W:World,Below w.heap.size w W→Calls Tryz.prog 27 #[.pointer none,.agg #[.int .i64 f.k,.string f.nm,.int .i64 f.op,q.v,q.t,.int .i64 f.lo,.int .i64 f.hi,.bool f.opn,q.s,q.r]] W fun r w'=>∃ v,r=.returned v∧PtT W.heap.size w' v (prtF f [])∧Below W.heap.size W w'):=fun h W hW=>partOf_any f q W h (hq.below hW)
 have hE0:stE f=if chkF f=0 then (if (prtF f []).about.acc then 0 else 100) else chkF f:=rfl
 have hR0:stR f=if stE f=0 then (prtF f []).about.reach else 0:=rfl
 obtain ⟨⟨pv,cv,ev⟩,⟨pt,ct,et⟩,⟨ps_,cs,es⟩,⟨pr,cr,er⟩⟩:=sfm_forms hq
 rw [ev,et,es,er] at cC cP
 rw [ev,et,es,er]
 obtain ⟨E,eE⟩:∃ E,stE f=E:=⟨_,rfl⟩
 obtain ⟨RR,eR⟩:∃ R,stR f=R:=⟨_,rfl⟩
 rw [eR,eE] at hR0
 rw [eE] at hE0
 rw [eE,eR]
 clear ev et es er hq eE eR
 generalize prtF f []=P at*
 generalize chkF f=C at*
 generalize f.vars.length=nv at*
 generalize f.terms.length=nt at*
 generalize f.subs.length=ns at*
 generalize f.rgx.length=nr at*
 generalize f.nm=nm at*
 generalize f.op=op at*
 generalize f.lo=lo at*
 generalize f.hi=hi at*
 generalize f.opn=o at*
 generalize f.k=k at*
 have HE:Hid (E=if C=0 then (if P.about.acc then 0 else 100) else C):=hE0
 have HR:Hid (RR=if E=0 then P.about.reach else 0):=hR0
 clear hE0 hR0
 go_enter Tryz.func22,Tryz.ntmps22
 go_wp2_with fail
 refine (cC.out _ (by go_grown)).mono ?_
 rintro r1 w1 ⟨rfl,hb1⟩
 have K1:Below w.heap.size w w1:=Below.trans (by go_grown) (hb1.mono (by simp;try omega))
 have gb:∀ o,w1.cell? ⟨w.heap.size,o,none⟩=_:=fun o=>hb1.cell (p:=⟨w.heap.size,o,none⟩) (by simp;try omega)
 have hl1:w.heap.size+1<w1.heap.size:=Nat.lt_of_lt_of_le (by simp) hb1.size
 have x0:w1.cell? ⟨w.heap.size,0,none⟩=some (.int .i64 k):=(gb 0).trans (by simp (maxDischargeDepth:=12) [go_sem])
 have x1:w1.cell? ⟨w.heap.size,1,none⟩=some (.string nm):=(gb 1).trans (by simp (maxDischargeDepth:=12) [go_sem])
 have x2:w1.cell? ⟨w.heap.size,2,none⟩=some (.int .i64 op):=(gb 2).trans (by simp (maxDischargeDepth:=12) [go_sem])
 have x3:w1.cell? ⟨w.heap.size,3,none⟩=some (.slice pv nv cv):=(gb 3).trans (by simp (maxDischargeDepth:=12) [go_sem])
 have x4:w1.cell? ⟨w.heap.size,4,none⟩=some (.slice pt nt ct):=(gb 4).trans (by simp (maxDischargeDepth:=12) [go_sem])
 have x5:w1.cell? ⟨w.heap.size,5,none⟩=some (.int .i64 lo):=(gb 5).trans (by simp (maxDischargeDepth:=12) [go_sem])
 have x6:w1.cell? ⟨w.heap.size,6,none⟩=some (.int .i64 hi):=(gb 6).trans (by simp (maxDischargeDepth:=12) [go_sem])
 have x7:w1.cell? ⟨w.heap.size,7,none⟩=some (.bool o):=(gb 7).trans (by simp (maxDischargeDepth:=12) [go_sem])
 have x8:w1.cell? ⟨w.heap.size,8,none⟩=some (.slice ps_ ns cs):=(gb 8).trans (by simp (maxDischargeDepth:=12) [go_sem])
 have x9:w1.cell? ⟨w.heap.size,9,none⟩=some (.slice pr nr cr):=(gb 9).trans (by simp (maxDischargeDepth:=12) [go_sem])
 have HRES:Hid (w1.heap[w.heap.size+1]? =some (.cells #[.slice none 0 0,.bool false,.int .i64 0,.slice none 0 0] 48 (0,0))):=by
  have hh:∀ (o1 o2:Obj),((w.alloc o1).alloc o2).heap[w.heap.size+1]? =some o2:=fun o1 o2=>by
   have h:=heap_allocA (w.alloc o1) o2
   simpa using h
  exact (hb1.block _ (by simp)).trans (hh _ _)
 clear hb1 gb cC
 by_cases hc:C=0
 case neg=>
  have hne:(C != 0)=true:=by simp [hc]
  have hE:E=C:=by have h:=HE.out;rw [if_neg hc] at h;exact h
  have hR:RR=0:=by have h:=HR.out;rw [if_neg (by rw [hE];exact hc)] at h;exact h
  subst hE hR
  clear HE HR cP x0 x1 x2 x3 x4 x5 x6 x7 x8 x9
  have r0_:w1.cell? ⟨w.heap.size+1,0,none⟩=some (.slice none 0 0):=by rw [Lib.cell_of_heap HRES.out];rfl
  have f0_:w1.frozen? ⟨w.heap.size+1,0,none⟩=false:=Lib.frozen_of_heap HRES.out _
  have r1_:w1.cell? ⟨w.heap.size+1,1,none⟩=some (.bool false):=by rw [Lib.cell_of_heap HRES.out];rfl
  have f1_:w1.frozen? ⟨w.heap.size+1,1,none⟩=false:=Lib.frozen_of_heap HRES.out _
  have r2_:w1.cell? ⟨w.heap.size+1,2,none⟩=some (.int .i64 0):=by rw [Lib.cell_of_heap HRES.out];rfl
  have f2_:w1.frozen? ⟨w.heap.size+1,2,none⟩=false:=Lib.frozen_of_heap HRES.out _
  have r3_:w1.cell? ⟨w.heap.size+1,3,none⟩=some (.slice none 0 0):=by rw [Lib.cell_of_heap HRES.out];rfl
  have f3_:w1.frozen? ⟨w.heap.size+1,3,none⟩=false:=Lib.frozen_of_heap HRES.out _
  clear HRES
  go_wp2
  obtain ⟨z0,z1,z2,z3⟩:=set4 (.slice none 0 0) (.bool false) (.int .i64 0) (.slice none 0 0) r0_ r1_ r2_ r3_
  generalize hW:World.setCell _ _ _=W9 at*
  refine bodyPost_ret (by simp [results,Tryz.results22,go_sem,z0,z1,z2,z3];try rfl) rfl ?_
  subst hW
  exact ⟨none,0,0,false,none,0,0,rfl,by go_grown⟩
 case pos=>
  subst hc
  have cQ:Hid (∀ W:World,Below w.heap.size w W→_):=cP.out rfl
  have hE:Hid (E=if P.about.acc then 0 else 100):=by have h:=HE.out;rw [if_pos rfl] at h;exact h
  clear HE cP
  go_wp2_with fail
  refine (cQ.out _ (by first | exact K1 | go_grown)).mono ?_
  rintro r2 w2 ⟨v,rfl,hP,hb2⟩
  have K2:Below w.heap.size w w2:=K1.trans (hb2.mono K1.size)
  have HRES2:Hid (w2.heap[w.heap.size+1]? =_):=(hb2.block _ hl1).trans HRES.out
  have hl2:w.heap.size+1<w2.heap.size:=Nat.lt_of_lt_of_le hl1 hb2.size
  obtain ⟨T,vv,qv,qb,dv,db,rfl, -, -,hm⟩:=hP.pt.abt
  clear hP hb2 HRES hl1 cQ K1 x0 x1 x2 x3 x4 x5 x6 x7 x8 x9
  generalize P.about.vars.length=mv at*
  generalize P.about.bare.length=mb at*
  generalize P.about.reach=FR at*
  generalize P.about.acc=AC at*
  go_wp2_with fail
  refine (about_fx (.bool true) (.bool true) AC FR qv qb mv mb dv db _).mono ?_
  rintro r3 w3 ⟨rfl,hb3⟩
  have K3:Below w.heap.size w w3:=K2.trans (hb3.mono K2.size)
  have HRES3:Hid (w3.heap[w.heap.size+1]? =_):=(hb3.block _ hl2).trans HRES2.out
  have hl3:w.heap.size+1<w3.heap.size:=Nat.lt_of_lt_of_le hl2 hb3.size
  clear hb3 HRES2 hl2 hm K2
  have r0_:w3.cell? ⟨w.heap.size+1,0,none⟩=some (.slice none 0 0):=by rw [Lib.cell_of_heap HRES3.out];rfl
  have f0_:w3.frozen? ⟨w.heap.size+1,0,none⟩=false:=Lib.frozen_of_heap HRES3.out _
  have r1_:w3.cell? ⟨w.heap.size+1,1,none⟩=some (.bool false):=by rw [Lib.cell_of_heap HRES3.out];rfl
  have f1_:w3.frozen? ⟨w.heap.size+1,1,none⟩=false:=Lib.frozen_of_heap HRES3.out _
  have r2_:w3.cell? ⟨w.heap.size+1,2,none⟩=some (.int .i64 0):=by rw [Lib.cell_of_heap HRES3.out];rfl
  have f2_:w3.frozen? ⟨w.heap.size+1,2,none⟩=false:=Lib.frozen_of_heap HRES3.out _
  have r3_:w3.cell? ⟨w.heap.size+1,3,none⟩=some (.slice none 0 0):=by rw [Lib.cell_of_heap HRES3.out];rfl
  have f3_:w3.frozen? ⟨w.heap.size+1,3,none⟩=false:=Lib.frozen_of_heap HRES3.out _
  clear HRES3
  cases AC with
  | true=>
   have h0:E=0:=by rw [hE.out];rfl
   have hR:RR=FR:=by have h:=HR.out;rw [if_pos h0] at h;exact h
   subst h0 hR
   clear hE HR
   go_wp2
   obtain ⟨z0,z1,z2,z3⟩:=set4 (.slice qv mv dv) (.bool true) (.int .i64 RR) (.slice qb mb db) r0_ r1_ r2_ r3_
   generalize hW:World.setCell _ _ _=W9 at*
   refine bodyPost_ret (by simp [results,Tryz.results22,go_sem,World.cell?_alloc_some,z0,z1,z2,z3];try rfl) rfl ?_
   subst hW
   exact ⟨qv,mv,dv,true,qb,mb,db,rfl,by go_grown⟩
  | false=>
   have h0:E=100:=by rw [hE.out];rfl
   have hR:RR=0:=by have h:=HR.out;rw [h0,if_neg (by decide)] at h;exact h
   subst h0 hR
   clear hE HR
   go_wp2
   obtain ⟨z0,z1,z2,z3⟩:=set4 (.slice none 0 0) (.bool false) (.int .i64 0) (.slice none 0 0) r0_ r1_ r2_ r3_
   generalize hW:World.setCell _ _ _=W9 at*
   refine bodyPost_ret (by simp [results,Tryz.results22,go_sem,World.cell?_alloc_some,z0,z1,z2,z3];try rfl) rfl ?_
   subst hW
   exact ⟨none,0,0,false,none,0,0,rfl,by go_grown⟩
theorem check_st (f:Fm) (q:FQ) (w:World) (hq:QAt w (f,q)):
  Calls Tryz.prog 12 #[.agg #[.int .i64 f.k,.string f.nm,.int .i64 f.op,q.v,q.t,.int .i64 f.lo,.int .i64 f.hi,.bool f.opn,q.s,q.r]] w fun e w'=>e=.returned (.int .i64 (stE f))∧Below w.heap.size w w':=by
 have cC:Hid (∀ W:World,Below w.heap.size w W→Calls Tryz.prog 22 #[.agg #[.int .i64 f.k,.string f.nm,.int .i64 f.op,q.v,q.t,.int .i64 f.lo,.int .i64 f.hi,.bool f.opn,q.s,q.r]] W fun e w'=>∃ pv nv cv a pb nb cb,e=.returned (.tuple #[.agg #[.slice pv nv cv,.bool a,.int .i64 (stR f),.slice pb nb cb],.int .i64 (stE f)])∧Below W.heap.size W w'):=fun W hW=>judged_any f q W (hq.below hW)
 obtain ⟨⟨pv,cv,ev⟩,⟨pt,ct,et⟩,⟨ps_,cs,es⟩,⟨pr,cr,er⟩⟩:=sfm_forms hq
 rw [ev,et,es,er] at cC
 rw [ev,et,es,er]
 clear ev et es er hq
 generalize stR f=RR at*
 generalize stE f=E at*
 generalize f.vars.length=nv at*
 generalize f.terms.length=nt at*
 generalize f.subs.length=ns at*
 generalize f.rgx.length=nr at*
 generalize f.nm=nm at*
 generalize f.op=op at*
 generalize f.lo=lo at*
 generalize f.hi=hi at*
 generalize f.opn=o at*
 generalize f.k=k at*
 go_enter Tryz.func12,Tryz.ntmps12
 go_wp2_with fail
 refine (cC.out _ (by go_grown)).mono ?_
 rintro r1 w1 ⟨qv,mv,dv,a,qb,mb,db,rfl,hb1⟩
 have K1:Below w.heap.size w w1:=Below.trans (by go_grown) (hb1.mono (by simp;try omega))
 clear hb1 cC
 go_wp2
 go_ret
 have zz:=K1.size
 exact ⟨rfl,by go_grown⟩
theorem reach_st (f:Fm) (q:FQ) (w:World) (hq:QAt w (f,q)):
  Calls Tryz.prog 10 #[.agg #[.int .i64 f.k,.string f.nm,.int .i64 f.op,q.v,q.t,.int .i64 f.lo,.int .i64 f.hi,.bool f.opn,q.s,q.r]] w fun e w'=>e=.returned (.tuple #[.int .i64 (stR f),.int .i64 (stE f)])∧Below w.heap.size w w':=by
 have cC:Hid (∀ W:World,Below w.heap.size w W→Calls Tryz.prog 22 #[.agg #[.int .i64 f.k,.string f.nm,.int .i64 f.op,q.v,q.t,.int .i64 f.lo,.int .i64 f.hi,.bool f.opn,q.s,q.r]] W fun e w'=>∃ pv nv cv a pb nb cb,e=.returned (.tuple #[.agg #[.slice pv nv cv,.bool a,.int .i64 (stR f),.slice pb nb cb],.int .i64 (stE f)])∧Below W.heap.size W w'):=fun W hW=>judged_any f q W (hq.below hW)
 obtain ⟨⟨pv,cv,ev⟩,⟨pt,ct,et⟩,⟨ps_,cs,es⟩,⟨pr,cr,er⟩⟩:=sfm_forms hq
 rw [ev,et,es,er] at cC
 rw [ev,et,es,er]
 clear ev et es er hq
 generalize stR f=RR at*
 generalize stE f=E at*
 generalize f.vars.length=nv at*
 generalize f.terms.length=nt at*
 generalize f.subs.length=ns at*
 generalize f.rgx.length=nr at*
 generalize f.nm=nm at*
 generalize f.op=op at*
 generalize f.lo=lo at*
 generalize f.hi=hi at*
 generalize f.opn=o at*
 generalize f.k=k at*
 go_enter Tryz.func10,Tryz.ntmps10
 go_wp2_with fail
 refine (cC.out _ (by go_grown)).mono ?_
 rintro r1 w1 ⟨qv,mv,dv,a,qb,mb,db,rfl,hb1⟩
 have K1:Below w.heap.size w w1:=Below.trans (by go_grown) (hb1.mono (by simp;try omega))
 clear hb1 cC
 go_wp2
 refine bodyPost_ret (by simp [results,Tryz.results10,go_sem];try rfl) rfl ?_
 have zz:=K1.size
 exact ⟨rfl,by go_grown⟩
theorem fits_and {W:World} {b:Nat} {f g:Fm} {q r:FQ} (hb:b<W.heap.size) (hq:QAt W (f,q)) (hr:QAt W (g,r)) (hc:FmC W b 0 f q.v q.t q.s q.r) (hd:FmC W b 10 g r.v r.t r.s r.r):QAt W (andF f g,⟨.slice none 0 0,.slice none 0 0,.slice (some ⟨b,0,none⟩) 2 2,.slice none 0 0⟩):=
 ⟨nms_nil _,.nil,fms_two hb hq hr hc hd,.nil⟩
theorem case_st (f g:Fm) (q r:FQ) (w:World) (hq:QAt w (f,q)) (hr:QAt w (g,r)):
  Calls Tryz.prog 14 #[.agg #[.int .i64 f.k,.string f.nm,.int .i64 f.op,q.v,q.t,.int .i64 f.lo,.int .i64 f.hi,.bool f.opn,q.s,q.r],.agg #[.int .i64 g.k,.string g.nm,.int .i64 g.op,r.v,r.t,.int .i64 g.lo,.int .i64 g.hi,.bool g.opn,r.s,r.r]] w fun e w'=>e=.returned (.int .i64 (stC f g))∧Below w.heap.size w w':=by
 have cC:Hid (∀ (W:World) (b:Nat),Below w.heap.size w W→b<W.heap.size→FmC W b 0 f q.v q.t q.s q.r→FmC W b 10 g r.v r.t r.s r.r→Calls Tryz.prog 25 #[.agg #[.int .i64 8,.string ⟨#[]⟩,.int .i64 0,.slice none 0 0,.slice none 0 0,.int .i64 0,.int .i64 0,.bool false,.slice (some ⟨b,0,none⟩) 2 2,.slice none 0 0]] W fun x w'=>x=.returned (.int .i64 (chkF (andF f g)))∧Below W.heap.size W w'):=fun W b hW hb hc hd=>check_fm (andF f g) ⟨.slice none 0 0,.slice none 0 0,.slice (some ⟨b,0,none⟩) 2 2,.slice none 0 0⟩ W (fits_and hb (hq.below hW) (hr.below hW) hc hd)
 have cP:Hid (chkF (andF f g)=0→∀ W:World,Below w.heap.size w W→Calls Tryz.prog 27 #[.pointer none,.agg #[.int .i64 f.k,.string f.nm,.int .i64 f.op,q.v,q.t,.int .i64 f.lo,.int .i64 f.hi,.bool f.opn,q.s,q.r]] W fun x w'=>∃ v,x=.returned v∧PtV w' v (prtF f [])∧Below W.heap.size W w'):=fun h W hW=>(partOf_any f q W (and_chk h).1 (hq.below hW)).mono fun x w' ⟨v,h1,h2,h3⟩=>⟨v,h1,h2.pt,h3⟩
 have cO:Hid (chkF (andF f g)=0→∀ W:World,Below w.heap.size w W→Calls Tryz.prog 27 #[.pointer none,.agg #[.int .i64 g.k,.string g.nm,.int .i64 g.op,r.v,r.t,.int .i64 g.lo,.int .i64 g.hi,.bool g.opn,r.s,r.r]] W fun x w'=>∃ v,x=.returned v∧PtV w' v (prtF g [])∧Below W.heap.size W w'):=fun h W hW=>(partOf_any g r W (and_chk h).2 (hr.below hW)).mono fun x w' ⟨v,h1,h2,h3⟩=>⟨v,h1,h2.pt,h3⟩
 have hO:Hid (chkF (andF f g)=0→PtB (prtF g [])):=fun h=>by
  obtain ⟨h1,h2, -, -⟩:=(chk_iff g).1 (and_chk h).2
  exact ptB_prt h1 (by omega) []
 have hC0:stC f g=if chkF (andF f g)=0 then caseP (prtF f []) (prtF g []) else 0:=rfl
 obtain ⟨⟨pv,cv,ev⟩,⟨pt,ct,et⟩,⟨ps_,cs,es⟩,⟨pr,cr,er⟩⟩:=sfm_forms hq
 obtain ⟨⟨pv2,cv2,ev2⟩,⟨pt2,ct2,et2⟩,⟨ps2,cs2,es2⟩,⟨pr2,cr2,er2⟩⟩:=sfm_forms hr
 unfold FmC at cC
 rw [ev,et,es,er] at cC cP
 rw [ev2,et2,es2,er2] at cC cO
 rw [ev,et,es,er,ev2,et2,es2,er2]
 obtain ⟨R,eC⟩:∃ R,stC f g=R:=⟨_,rfl⟩
 rw [eC] at hC0
 rw [eC]
 clear ev et es er ev2 et2 es2 er2 hq hr eC
 generalize prtF f []=P at*
 generalize prtF g []=O at*
 generalize chkF (andF f g)=C at*
 generalize f.vars.length=nv at*
 generalize f.terms.length=nt at*
 generalize f.subs.length=ns at*
 generalize f.rgx.length=nr at*
 generalize f.nm=nm at*
 generalize f.op=op at*
 generalize f.lo=lo at*
 generalize f.hi=hi at*
 generalize f.opn=o at*
 generalize f.k=k at*
 generalize g.vars.length=nv2 at*
 generalize g.terms.length=nt2 at*
 generalize g.subs.length=ns2 at*
 generalize g.rgx.length=nr2 at*
 generalize g.nm=nm2 at*
 generalize g.op=op2 at*
 generalize g.lo=lo2 at*
 generalize g.hi=hi2 at*
 generalize g.opn=o2 at*
 generalize g.k=k2 at*
 have HC:Hid (R=if C=0 then caseP P O else 0):=hC0
 clear hC0
 go_enter Tryz.func14,Tryz.ntmps14
 go_wp2_with fail
 refine (cC.out _ _ (by go_grown) (by simp) ?_ ?_).mono ?_
 case refine_1=>refine ⟨?_, ?_, ?_, ?_, ?_, ?_, ?_, ?_, ?_, ?_⟩<;>simp (maxDischargeDepth:=12) [go_sem]
 case refine_2=>refine ⟨?_, ?_, ?_, ?_, ?_, ?_, ?_, ?_, ?_, ?_⟩<;>simp (maxDischargeDepth:=12) [go_sem]
 rintro r1 w1 ⟨rfl,hb1⟩
 have K1:Below w.heap.size w w1:=Below.trans (by go_grown) (hb1.mono (by simp;try omega))
 have gb:∀ o,w1.cell? ⟨w.heap.size,o,none⟩=_:=fun o=>hb1.cell (p:=⟨w.heap.size,o,none⟩) (by simp;try omega)
 have gc:∀ o,w1.cell? ⟨w.heap.size+1,o,none⟩=_:=fun o=>hb1.cell (p:=⟨w.heap.size+1,o,none⟩) (by simp)
 have hl1:w.heap.size+1<w1.heap.size:=Nat.lt_of_lt_of_le (by simp) hb1.size
 have x0:w1.cell? ⟨w.heap.size,0,none⟩=some (.int .i64 k):=(gb 0).trans (by simp (maxDischargeDepth:=12) [go_sem])
 have x1:w1.cell? ⟨w.heap.size,1,none⟩=some (.string nm):=(gb 1).trans (by simp (maxDischargeDepth:=12) [go_sem])
 have x2:w1.cell? ⟨w.heap.size,2,none⟩=some (.int .i64 op):=(gb 2).trans (by simp (maxDischargeDepth:=12) [go_sem])
 have x3:w1.cell? ⟨w.heap.size,3,none⟩=some (.slice pv nv cv):=(gb 3).trans (by simp (maxDischargeDepth:=12) [go_sem])
 have x4:w1.cell? ⟨w.heap.size,4,none⟩=some (.slice pt nt ct):=(gb 4).trans (by simp (maxDischargeDepth:=12) [go_sem])
 have x5:w1.cell? ⟨w.heap.size,5,none⟩=some (.int .i64 lo):=(gb 5).trans (by simp (maxDischargeDepth:=12) [go_sem])
 have x6:w1.cell? ⟨w.heap.size,6,none⟩=some (.int .i64 hi):=(gb 6).trans (by simp (maxDischargeDepth:=12) [go_sem])
 have x7:w1.cell? ⟨w.heap.size,7,none⟩=some (.bool o):=(gb 7).trans (by simp (maxDischargeDepth:=12) [go_sem])
 have x8:w1.cell? ⟨w.heap.size,8,none⟩=some (.slice ps_ ns cs):=(gb 8).trans (by simp (maxDischargeDepth:=12) [go_sem])
 have x9:w1.cell? ⟨w.heap.size,9,none⟩=some (.slice pr nr cr):=(gb 9).trans (by simp (maxDischargeDepth:=12) [go_sem])
 have y0:w1.cell? ⟨w.heap.size+1,0,none⟩=some (.int .i64 k2):=(gc 0).trans (by simp (maxDischargeDepth:=12) [go_sem])
 have y1:w1.cell? ⟨w.heap.size+1,1,none⟩=some (.string nm2):=(gc 1).trans (by simp (maxDischargeDepth:=12) [go_sem])
 have y2:w1.cell? ⟨w.heap.size+1,2,none⟩=some (.int .i64 op2):=(gc 2).trans (by simp (maxDischargeDepth:=12) [go_sem])
 have y3:w1.cell? ⟨w.heap.size+1,3,none⟩=some (.slice pv2 nv2 cv2):=(gc 3).trans (by simp (maxDischargeDepth:=12) [go_sem])
 have y4:w1.cell? ⟨w.heap.size+1,4,none⟩=some (.slice pt2 nt2 ct2):=(gc 4).trans (by simp (maxDischargeDepth:=12) [go_sem])
 have y5:w1.cell? ⟨w.heap.size+1,5,none⟩=some (.int .i64 lo2):=(gc 5).trans (by simp (maxDischargeDepth:=12) [go_sem])
 have y6:w1.cell? ⟨w.heap.size+1,6,none⟩=some (.int .i64 hi2):=(gc 6).trans (by simp (maxDischargeDepth:=12) [go_sem])
 have y7:w1.cell? ⟨w.heap.size+1,7,none⟩=some (.bool o2):=(gc 7).trans (by simp (maxDischargeDepth:=12) [go_sem])
 have y8:w1.cell? ⟨w.heap.size+1,8,none⟩=some (.slice ps2 ns2 cs2):=(gc 8).trans (by simp (maxDischargeDepth:=12) [go_sem])
 have y9:w1.cell? ⟨w.heap.size+1,9,none⟩=some (.slice pr2 nr2 cr2):=(gc 9).trans (by simp (maxDischargeDepth:=12) [go_sem])
 clear hb1 gb gc cC
 by_cases hc:C=0
 case neg=>
  have hne:(C != 0)=true:=by simp [hc]
  have hR:R=0:=by have h:=HC.out;rw [if_neg hc] at h;exact h
  subst hR
  clear HC cP cO hO x0 x1 x2 x3 x4 x5 x6 x7 x8 x9 y0 y1 y2 y3 y4 y5 y6 y7 y8 y9
  go_wp2
  go_ret
  exact ⟨rfl,by go_grown⟩
 case pos=>
  subst hc
  have cF:Hid (∀ W:World,Below w.heap.size w W→_):=cP.out rfl
  have cG:Hid (∀ W:World,Below w.heap.size w W→_):=cO.out rfl
  have hB:=hO.out rfl
  have hR:R=caseP P O:=by have h:=HC.out;rw [if_pos rfl] at h;exact h
  have cA:Hid (∀ (W:World) (u v:Value),PtV W u P→PtV W v O→Calls Tryz.prog 26 #[u,v] W fun e w'=>e=.returned (.int .i64 R)∧Below W.heap.size W w'):=fun W u v hu hv=>by rw [hR];exact caseOf_any P O u v W hu hv hB
  have zw1:=K1.size
  clear HC cP cO hO hB hR
  go_upto_region 3 with fail
  go_region_held3 (fun W=>W.cell? ⟨w.heap.size,0,none⟩=some (.int .i64 k)∧W.cell? ⟨w.heap.size,1,none⟩=some (.string nm)∧W.cell? ⟨w.heap.size,2,none⟩=some (.int .i64 op)∧W.cell? ⟨w.heap.size,3,none⟩=some (.slice pv nv cv)∧W.cell? ⟨w.heap.size,4,none⟩=some (.slice pt nt ct)∧W.cell? ⟨w.heap.size,5,none⟩=some (.int .i64 lo)∧W.cell? ⟨w.heap.size,6,none⟩=some (.int .i64 hi)∧W.cell? ⟨w.heap.size,7,none⟩=some (.bool o)∧W.cell? ⟨w.heap.size,8,none⟩=some (.slice ps_ ns cs)∧W.cell? ⟨w.heap.size,9,none⟩=some (.slice pr nr cr)∧W.cell? ⟨w.heap.size+1,0,none⟩=some (.int .i64 k2)∧W.cell? ⟨w.heap.size+1,1,none⟩=some (.string nm2)∧W.cell? ⟨w.heap.size+1,2,none⟩=some (.int .i64 op2)∧W.cell? ⟨w.heap.size+1,3,none⟩=some (.slice pv2 nv2 cv2)∧W.cell? ⟨w.heap.size+1,4,none⟩=some (.slice pt2 nt2 ct2)∧W.cell? ⟨w.heap.size+1,5,none⟩=some (.int .i64 lo2)∧W.cell? ⟨w.heap.size+1,6,none⟩=some (.int .i64 hi2)∧W.cell? ⟨w.heap.size+1,7,none⟩=some (.bool o2)∧W.cell? ⟨w.heap.size+1,8,none⟩=some (.slice ps2 ns2 cs2)∧W.cell? ⟨w.heap.size+1,9,none⟩=some (.slice pr2 nr2 cr2)) (exact ⟨bcl (n:=w1.heap.size) (by go_grown) x0 (Nat.lt_of_succ_lt hl1),bcl (n:=w1.heap.size) (by go_grown) x1 (Nat.lt_of_succ_lt hl1),bcl (n:=w1.heap.size) (by go_grown) x2 (Nat.lt_of_succ_lt hl1),bcl (n:=w1.heap.size) (by go_grown) x3 (Nat.lt_of_succ_lt hl1),bcl (n:=w1.heap.size) (by go_grown) x4 (Nat.lt_of_succ_lt hl1),bcl (n:=w1.heap.size) (by go_grown) x5 (Nat.lt_of_succ_lt hl1),bcl (n:=w1.heap.size) (by go_grown) x6 (Nat.lt_of_succ_lt hl1),bcl (n:=w1.heap.size) (by go_grown) x7 (Nat.lt_of_succ_lt hl1),bcl (n:=w1.heap.size) (by go_grown) x8 (Nat.lt_of_succ_lt hl1),bcl (n:=w1.heap.size) (by go_grown) x9 (Nat.lt_of_succ_lt hl1),bcl (n:=w1.heap.size) (by go_grown) y0 hl1,bcl (n:=w1.heap.size) (by go_grown) y1 hl1,bcl (n:=w1.heap.size) (by go_grown) y2 hl1,bcl (n:=w1.heap.size) (by go_grown) y3 hl1,bcl (n:=w1.heap.size) (by go_grown) y4 hl1,bcl (n:=w1.heap.size) (by go_grown) y5 hl1,bcl (n:=w1.heap.size) (by go_grown) y6 hl1,bcl (n:=w1.heap.size) (by go_grown) y7 hl1,bcl (n:=w1.heap.size) (by go_grown) y8 hl1,bcl (n:=w1.heap.size) (by go_grown) y9 hl1⟩) (first
   | (go_at_call_of 27 (Value.slice pv nv cv);refine (cF.out _ (K1.trans (Below.mono (B:=w1.heap.size) (by go_grown) zw1))).mono ?_;rintro e_ v1 ⟨u1,rfl,hP1,hb1⟩;obtain ⟨hX1,hn1⟩:=bgX (n:=w1.heap.size) (W0:=w1) (by go_grown) (by go_size) hb1;obtain ⟨T1,vv1,rfl⟩:=hP1.lens;have lw1:w.heap.size+1<v1.heap.size:=Nat.lt_of_lt_of_le hl1 hX1.size)
   | (go_at_call_of 27 (Value.slice pv2 nv2 cv2);refine (cG.out _ (K1.trans (Below.mono (B:=w1.heap.size) (by go_grown) zw1))).mono ?_;rintro e_ v2 ⟨u2,rfl,hP2,hb2⟩;replace hP1:=hP1.keep (bgX (n:=v1.heap.size) (W0:=v1) (by go_grown) (by go_size) hb2).1;obtain ⟨hX2,hn2⟩:=bgX (n:=w1.heap.size) (W0:=w1) (by go_grown) (by go_size) hb2;obtain ⟨T2,vv2,rfl⟩:=hP2.lens;have lw2:w.heap.size+1<v2.heap.size:=Nat.lt_of_lt_of_le hl1 hX2.size)
   | (go_at_call 26;refine (cA.out _ _ _ (hP1.keep (by go_grown)) (hP2.keep (by go_grown))).mono ?_;rintro e_ v3 ⟨rfl,hb3⟩;obtain ⟨hX3,hn3⟩:=bgX (n:=w1.heap.size) (W0:=w1) (by go_grown) (by go_size) hb3))
  all_goals
   go_wp2
   go_ret
   exact ⟨rfl,K1.trans (Below.mono (B:=w1.heap.size) (by first | assumption | go_grown) zw1)⟩
end Go.Proofs.YthodedagbbifbaaGreat
namespace Go.Proofs.YthodedagbbifbaaGreat
open Go.RowKit LX Go.Shelf
set_option linter.unusedVariables false
abbrev x1:ByteArray:=⟨#[120]⟩
abbrev p1:ByteArray:=⟨#[112]⟩
def xTm:Tm:=.mk 1 ⟨#[120]⟩ ⟨0,0,0,⟨#[]⟩⟩ []
def c3Tm:Tm:=.mk 2 ⟨#[]⟩ ⟨1,3,0,⟨#[]⟩⟩ []
def pxF:Fm:=.mk 3 ⟨#[112]⟩ 0 [] [xTm] 0 0 false [] []
def snF:Fm:=.mk 14 ⟨#[]⟩ 0 [] [] 1 3 false [pxF] []
def nxF:Fm:=.mk 12 ⟨#[]⟩ 0 [] [] 0 5 false [snF] []
def ntF:Fm:=.mk 7 ⟨#[]⟩ 0 [] [] 0 0 false [pxF] []
def ltF:Fm:=.mk 5 ⟨#[]⟩ 0 [] [xTm,c3Tm] 0 0 false [] []
theorem srt_1 (a:List UInt8):List.mergeSort [a] (fun x y=>decide (x≤y))=[a]:=by simp
theorem srt_2 (a:List UInt8):List.mergeSort [a,a] (fun x y=>decide (x≤y))=[a,a]:=by
 simp [List.mergeSort,List.MergeSort.Internal.splitInTwo]
theorem un_0 {ls:List (List ByteArray)} (h:ls.flatten=[]):uniN ls=[]:=by
 unfold uniN srtN cmpN
 rw [h]
 show unb (Lib.compact (bts (unb (List.mergeSort [] (fun x y=>decide (x≤y))))))=_
 rw [List.mergeSort]
 rfl
theorem un_x {ls:List (List ByteArray)} (h:ls.flatten=[x1]):uniN ls=[x1]:=by
 unfold uniN srtN cmpN
 rw [h]
 show unb (Lib.compact (bts (unb (List.mergeSort [([120]:List UInt8)] (fun x y=>decide (x≤y))))))=_
 rw [srt_1]
 rfl
theorem un_xx {ls:List (List ByteArray)} (h:ls.flatten=[x1,x1]):uniN ls=[x1]:=by
 unfold uniN srtN cmpN
 rw [h]
 show unb (Lib.compact (bts (unb (List.mergeSort [([120]:List UInt8),[120]] (fun x y=>decide (x≤y))))))=_
 rw [srt_2]
 rfl
theorem un_p {ls:List (List ByteArray)} (h:ls.flatten=[p1]):uniN ls=[p1]:=by
 unfold uniN srtN cmpN
 rw [h]
 show unb (Lib.compact (bts (unb (List.mergeSort [([112]:List UInt8)] (fun x y=>decide (x≤y))))))=_
 rw [srt_1]
 rfl
theorem tv_x:tvs xTm=[x1]:=by kernel_rfl
theorem fr_px:fre pxF=([x1],1):=by
 have h:freO pxF (List.map (fun g=>(fre g).1) [])=[x1]:=by
  show uniN [tvss [xTm],uniN []]=_
  rw [un_0 (ls:=[]) rfl]
  exact un_x (by kernel_rfl)
 rw [fre_eq,show ptsF pxF=[] from rfl,h]
 rfl
theorem fr_lt:fre ltF=([x1],1):=by
 have h:freO ltF (List.map (fun g=>(fre g).1) [])=[x1]:=by
  show uniN [tvss [xTm,c3Tm],uniN []]=_
  rw [un_0 (ls:=[]) rfl]
  exact un_x (by kernel_rfl)
 rw [fre_eq,show ptsF ltF=[] from rfl,h]
 rfl
theorem fr_one {f g:Fm} (hp:ptsF f=[g]) (ht:f.terms=[]) (hk:f.k=7∨f.k=12∨f.k=14) (hg:fre g=([x1],1)):fre f=([x1],1):=by
 have h:freO f (List.map (fun g=>(fre g).1) [g])=[x1]:=by
  unfold freO
  rw [if_neg (by omega),if_neg (by omega),if_neg (by omega),ht,tvss_nil,List.map_cons,List.map_nil,hg]
  show uniN [[],uniN [[x1]]]=_
  rw [un_x (ls:=[[x1]]) rfl]
  exact un_x rfl
 rw [fre_eq,hp,h,List.map_cons,List.map_nil,hg]
 rfl
theorem fr_two (f g:Fm) (hf:fre f=([x1],1)) (hg:fre g=([x1],1)):fre (andF f g)=([x1],1):=by
 have h:freO (andF f g) (List.map (fun g=>(fre g).1) [f,g])=[x1]:=by
  show uniN [tvss [],uniN [(fre f).1,(fre g).1]]=_
  rw [tvss_nil,hf,hg,un_xx (ls:=[[x1],[x1]]) rfl]
  exact un_x rfl
 rw [fre_eq,pts_and,h,List.map_cons,List.map_cons,List.map_nil,hf,hg]
 rfl
theorem fr_nt:fre ntF=([x1],1):=fr_one (g:=pxF) rfl rfl (Or.inl rfl) fr_px
theorem fr_sn:fre snF=([x1],1):=fr_one (g:=pxF) rfl rfl (Or.inr (Or.inr rfl)) fr_px
theorem fr_nx:fre nxF=([x1],1):=fr_one (g:=snF) rfl rfl (Or.inr (Or.inl rfl)) fr_sn
theorem ck_of {f:Fm} {n:Int×Int} (hr:(frun 1 (0,0) f).1=0) (hf:fre f=([x1],1)):chkF f=0:=by
 unfold chkF
 rw [if_pos hr,hf]
 rfl
theorem ck_px:chkF pxF=0:=ck_of (n:=(0,0)) (by kernel_rfl) fr_px
theorem ck_lt:chkF ltF=0:=ck_of (n:=(0,0)) (by kernel_rfl) fr_lt
theorem ck_nt:chkF ntF=0:=ck_of (n:=(0,0)) (by kernel_rfl) fr_nt
theorem ck_sn:chkF snF=0:=ck_of (n:=(0,0)) (by kernel_rfl) fr_sn
theorem ck_nx:chkF nxF=0:=ck_of (n:=(0,0)) (by kernel_rfl) fr_nx
theorem ck_pp:chkF (andF pxF pxF)=0:=ck_of (n:=(0,0)) (by kernel_rfl) (fr_two _ _ fr_px fr_px)
theorem ck_pn:chkF (andF pxF ntF)=0:=ck_of (n:=(0,0)) (by kernel_rfl) (fr_two _ _ fr_px fr_nt)
theorem ck_pl:chkF (andF pxF ltF)=0:=ck_of (n:=(0,0)) (by kernel_rfl) (fr_two _ _ fr_px fr_lt)
theorem ck_np:chkF (andF ntF pxF)=0:=ck_of (n:=(0,0)) (by kernel_rfl) (fr_two _ _ fr_nt fr_px)
theorem vr_of {f:Fm} (hc:chkF f=0) (hf:fre f=([x1],1)):varF f=[x1]:=by
 unfold varF
 rw [if_pos hc,hf]
theorem pr_px:prtF pxF []=.fx ⟨[x1],true,0,[p1]⟩:=by
 rw [prtF_eq]
 show mkP [] pxF (prtRs [] []++prtFs [] [])=_
 rw [prtRs,prtFs]
 show Pt.fx ⟨varF pxF,isAccP pxF [],0,[p1]⟩=_
 rw [vr_of ck_px fr_px,show isAccP pxF []=true by kernel_rfl]
theorem pr_nt:prtF ntF []=.neg ⟨[x1],false,0,[p1]⟩ (.fx ⟨[x1],true,0,[p1]⟩):=by
 rw [prtF_eq]
 show mkP [] ntF (prtRs [] []++prtFs [pxF] [])=_
 rw [prtRs,prtFs,prtFs,pr_px]
 show Pt.neg ⟨varF ntF,isAccP ntF [.fx ⟨[x1],true,0,[p1]⟩],0,uniN [[p1]]⟩ (.fx ⟨[x1],true,0,[p1]⟩)=_
 rw [vr_of ck_nt fr_nt,un_p rfl,show isAccP ntF [.fx ⟨[x1],true,0,[p1]⟩]=false by kernel_rfl]
theorem pr_sn:prtF snF []=.fx ⟨[x1],true,3,[p1]⟩:=by
 rw [prtF_eq]
 show mkP [] snF (prtRs [] []++prtFs [pxF] [])=_
 rw [prtRs,prtFs,prtFs,pr_px]
 show Pt.fx ⟨varF snF,isAccP snF [.fx ⟨[x1],true,0,[p1]⟩],3,uniN [[p1]]⟩=_
 rw [vr_of ck_sn fr_sn,un_p rfl,show isAccP snF [.fx ⟨[x1],true,0,[p1]⟩]=true by kernel_rfl]
theorem pr_nx:prtF nxF []=.fx ⟨[x1],true,8,[p1]⟩:=by
 rw [prtF_eq]
 show mkP [] nxF (prtRs [] []++prtFs [snF] [])=_
 rw [prtRs,prtFs,prtFs,pr_sn]
 show Pt.fx ⟨varF nxF,isAccP nxF [.fx ⟨[x1],true,3,[p1]⟩],8,uniN [[p1]]⟩=_
 rw [vr_of ck_nx fr_nx,un_p rfl,show isAccP nxF [.fx ⟨[x1],true,3,[p1]⟩]=true by kernel_rfl]
theorem pr_lt:prtF ltF []=.cmp ⟨[x1],false,0,[]⟩ 5 xTm c3Tm:=by
 rw [prtF_eq]
 show mkP [] ltF (prtRs [] []++prtFs [] [])=_
 rw [prtRs,prtFs]
 have h:isAccP ltF []=false:=by
  show (accP [] && (fixT xTm && fixT c3Tm))=false
  have:fixT xTm=false:=by
   unfold fixT tvN
   rw [tv_x,un_x rfl]
   rfl
  rw [this]
  rfl
 show Pt.cmp ⟨varF ltF,isAccP ltF [],0,uniN [[]]⟩ 5 xTm c3Tm=_
 rw [vr_of ck_lt fr_lt,un_0 (ls:=[[]]) rfl,h]
theorem se_nx:stE nxF=0:=by unfold stE;rw [if_pos ck_nx,pr_nx];rfl
theorem sr_nx:stR nxF=8:=by unfold stR;rw [if_pos se_nx,pr_nx];rfl
theorem se_nt:stE ntF=100:=by unfold stE;rw [if_pos ck_nt,pr_nt];rfl
theorem sc_pp:stC pxF pxF=1:=by unfold stC;rw [if_pos ck_pp,pr_px];kernel_rfl
theorem sc_pn:stC pxF ntF=2:=by unfold stC;rw [if_pos ck_pn,pr_px,pr_nt];kernel_rfl
theorem sc_pl:stC pxF ltF=3:=by unfold stC;rw [if_pos ck_pl,pr_px,pr_lt];kernel_rfl
theorem sc_np:stC ntF pxF=0:=by unfold stC;rw [if_pos ck_np,pr_px,pr_nt];kernel_rfl
theorem se_pn:stE (andF pxF ntF)=0:=by
 have h:=and_law ck_pn
 rw [sc_pn,show stE pxF=0 by unfold stE;rw [if_pos ck_px,pr_px];rfl] at h
 simpa using h
end Go.Proofs.YthodedagbbifbaaGreat
