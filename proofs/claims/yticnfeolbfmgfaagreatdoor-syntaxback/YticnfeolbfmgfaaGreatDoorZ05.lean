/- What the claims of this seat share: base. -/
import Derived.Test.YticnfeolbfmgfaaGreatDoorZ04
set_option maxRecDepth 100000
set_option maxHeartbeats 8000000
namespace Go.Proofs.YticnfeolbfmgfaaGreatDoor
open Go.RowKit LX Go.Shelf
set_option linter.unusedVariables false
theorem FmC.keepT {T:Nat} {w w':World} {b o:Nat} {f:Fm} {uv ut us ur:Value} (h:FmC w b o f uv ut us ur) (hb:KeepT T w w') (hB:b<w.heap.size) (hT:b≠T):FmC w' b o f uv ut us ur:=by
 obtain ⟨h0,h1,h2,h3,h4,h5,h6,h7,h8,h9⟩:=h
 exact ⟨(hb.cell (p:=⟨b,_,none⟩) hB hT).trans h0,(hb.cell (p:=⟨b,_,none⟩) hB hT).trans h1,(hb.cell (p:=⟨b,_,none⟩) hB hT).trans h2,(hb.cell (p:=⟨b,_,none⟩) hB hT).trans h3,(hb.cell (p:=⟨b,_,none⟩) hB hT).trans h4,(hb.cell (p:=⟨b,_,none⟩) hB hT).trans h5,(hb.cell (p:=⟨b,_,none⟩) hB hT).trans h6,(hb.cell (p:=⟨b,_,none⟩) hB hT).trans h7,(hb.cell (p:=⟨b,_,none⟩) hB hT).trans h8,(hb.cell (p:=⟨b,_,none⟩) hB hT).trans h9⟩
def TopAt (w0 w:World) (T:Nat) (V:Value) (xs:List Fm):Prop:=∃ p c,V=.slice p xs.length c∧xs.length≤9223372036854775807∧xs.length≤c∧∀ i (hi:i<xs.length),∃ b off uv ut us ur,p=some ⟨b,off,none⟩∧(b<w.heap.size∧b≠T)∧FmC w b (off+i*10) xs[i] uv ut us ur∧NmsAt w0 uv xs[i].vars∧TmsAt w0 ut xs[i].terms∧FmsAt w0 us xs[i].subs∧RxsAt w0 ur xs[i].rgx
theorem forms_top (w0:World) (T:Nat) (hT0:w0.heap.size≤T) (xs:List Fm) (V:Value) (dep:Int) (w:World) (s:Int×Int) (hw:Below w0.heap.size w0 w) (hT:Tal T s w) (hs:OkS s) (hd0:0≤dep) (hd1:dep≤25) (hV:TopAt w0 w T V xs):
  Calls Tryz.prog 77 #[.pointer (some ⟨T,0,none⟩),.int .i64 dep,V] w fun r w'=>r=.returned (.int .i64 (fruns dep s xs).1)∧KeepT T w w'∧Tal T (fruns dep s xs).2 w'∧OkS (fruns dep s xs).2:=by
 obtain ⟨m,hm⟩:∃ m,SizeOf.sizeOf xs≤m+1:=⟨SizeOf.sizeOf xs,by omega⟩
 have IF:∀ (fs:List Fm) (V:Value) (dep:Int),SizeOf.sizeOf fs≤m→FmsAt w0 V fs→Runs w0 T 77 dep V (fun s=>fruns dep s fs):=fun fs V dep _ h=>forms_runs w0 T hT0 dep V fs h
 have IR:∀ (rs:List Rx) (V:Value) (dep:Int),SizeOf.sizeOf rs≤m→RxsAt w0 V rs→Runs w0 T 125 dep V (fun s=>rruns dep s rs):=fun rs V dep _ h=>(both_runs w0 T hT0 _).2 rs V dep (Nat.le_refl _) h
 obtain ⟨p,c,rfl,hl,hc,HX0⟩:=hV
 have HX:Hid (∀ i (hi:i<xs.length),∃ b off uv ut us ur,p=some ⟨b,off,none⟩∧(b<w.heap.size∧b≠T)∧FmC w b (off+i*10) xs[i] uv ut us ur∧NmsAt w0 uv xs[i].vars∧TmsAt w0 ut xs[i].terms∧FmsAt w0 us xs[i].subs∧RxsAt w0 ur xs[i].rgx):=HX0
 have HIF:Hid (∀ (fs:List Fm) (V:Value) (dep:Int),SizeOf.sizeOf fs≤m→FmsAt w0 V fs→Runs w0 T 77 dep V (fun s=>fruns dep s fs)):=IF
 have HIR:Hid (∀ (rs:List Rx) (V:Value) (dep:Int),SizeOf.sizeOf rs≤m→RxsAt w0 V rs→Runs w0 T 125 dep V (fun s=>rruns dep s rs)):=IR
 have HT:Hid (Tal T s w):=hT
 have HS:Hid (OkS s):=hs
 have hTw:T<w.heap.size:=hT.lt
 have HM:Hid (SizeOf.sizeOf xs≤m+1):=hm
 clear HX0 IF IR hT hs hm
 show Calls Tryz.prog _ _ _ fun r w'=>r=.returned (.int .i64 (fruns dep s xs).1)∧KeepT T w w'∧Tal T (fruns dep s xs).2 w'∧OkS (fruns dep s xs).2
 obtain ⟨R,eR⟩:∃ R:Int×(Int×Int),Hid (fruns dep s xs=R):=⟨_,rfl⟩
 rw [eR.out]
 obtain ⟨n,en⟩:∃ n:Nat,Hid (xs.length=n):=⟨_,rfl⟩
 rw [en.out] at hl hc ⊢
 go_enter Tryz.func77,Tryz.ntmps77
 go_wp2
 go_loopw [12] (fun v wr=>∃ (k:Nat) (q:Int×Int),k≤n∧v=.int .i64 k∧Hid (R=fruns dep q (xs.drop k))∧KeepT T w wr∧Hid (Tal T q wr)∧Hid (OkS q)) (fun v _=>n - (intOf v).toNat)
 case atStart=>exact ⟨0,s,Nat.zero_le _,rfl,by rw [List.drop_zero];exact eR.out.symm,KeepT.refl _ _,HT,HS⟩
 case round=>
  obtain ⟨i,q,hk,rfl,hr,hK,hT,hs⟩:=hrel
  by_cases hlt:i<n
  case neg=>
   have c2:¬ (i:Int)<n:=by omega
   have hr2:Hid (R=(0,q)):=by
    have h:=hr.out
    rw [List.drop_eq_nil_of_le (by have:=en.out;omega),fruns_nil] at h
    exact h
   go_wp2
   go_ret
   rw [hr2.out]
   exact ⟨rfl,hK,hT.out,hs.out⟩
  have hlt':(i:Int)<n:=by omega
  have kx:i<xs.length:=by have:=en.out;omega
  obtain ⟨b,off,uv,ut,us,ur,rfl,hb,TC,NV,NT,NS,NR⟩:=HX.out i kx
  have hTr:T<wr.heap.size:=Nat.lt_of_lt_of_le hTw hK.size
  have hBr:Below w0.heap.size w0 wr:=hw.trans ((hK.below (B:=w0.heap.size) hT0 (Nat.le_of_lt hTw)))
  obtain ⟨a0,a1,a2,a3,a4,a5,a6,a7,a8,a9⟩:=TC.keepT hK hb.1 hb.2
  have hm1:=mem_lt i kx
  have hm3:=HM.out
  obtain ⟨E2,GT,GR,GF,pv,pt,ps,pr,nv,nt,ns,nr,cv,ct,cs,cr,rfl,rfl,rfl,rfl,cC,cT,cR,cF,hfe⟩:=felem w0 T hT0 dep xs[i] uv ut us ur NV NT NS NR (HIF.out _ _ _ (by have:=xs[i].subs_lt;omega) NS) (HIR.out _ _ _ (by have:=xs[i].rgx_lt;omega) NR)
  have hr2:Hid (R=andT (meetE dep q,meetS dep q) fun s1=>andT (E2,s1) fun s1=>andT (GT s1) fun s1=>andT (GR s1) fun s1=>andT (GF s1) fun s1=>fruns dep s1 (xs.drop (i+1))):=by
   have h:=hr.out
   rw [List.drop_eq_getElem_cons kx,fruns_cons,hfe] at h
   exact h
  clear TC hr hfe hm1 hm3
  generalize xs[i]=x at*
  have cM:Hid (∀ W:World,Tal T q W→Calls Tryz.prog 122 #[.pointer (some ⟨T,0,none⟩),.int .i64 dep] W fun r w'=>r=.returned (.int .i64 (meetE dep q))∧KeepT T W w'∧Tal T (meetS dep q) w'):=fun W hW=>meet_any T dep q W hW hs.out ⟨hd0,hd1⟩
  have HO1:Hid (OkS (meetS dep q)):=meetS_ok hs.out hd0
  have HL:Hid (meetE dep q=0→dep≤24):=meetE_le
  generalize meetS dep q=Q1 at*
  generalize meetE dep q=E1 at*
  generalize x.lo=lo at*
  generalize x.hi=hi at*
  generalize x.nm=nm at*
  generalize x.opn=o at*
  generalize x.op=op at*
  generalize x.k=k at*
  have hTne:wr.heap.size≠T:=by omega
  go_wp2_with fail
  refine (cM.out _ (Tal.alloc hT.out _)).mono ?_
  rintro r w2 ⟨rfl,hk2,ht2⟩
  have e0:w2.cell? ⟨wr.heap.size,0,none⟩=some (.int .i64 k):=(hk2.cell (p:=⟨wr.heap.size,0,none⟩) (by simp) hTne).trans (by simp [go_sem])
  have e1:w2.cell? ⟨wr.heap.size,1,none⟩=some (.string nm):=(hk2.cell (p:=⟨wr.heap.size,1,none⟩) (by simp) hTne).trans (by simp [go_sem])
  have e2:w2.cell? ⟨wr.heap.size,2,none⟩=some (.int .i64 op):=(hk2.cell (p:=⟨wr.heap.size,2,none⟩) (by simp) hTne).trans (by simp [go_sem])
  have e3:w2.cell? ⟨wr.heap.size,3,none⟩=some (.slice pv nv cv):=(hk2.cell (p:=⟨wr.heap.size,3,none⟩) (by simp) hTne).trans (by simp [go_sem])
  have e4:w2.cell? ⟨wr.heap.size,4,none⟩=some (.slice pt nt ct):=(hk2.cell (p:=⟨wr.heap.size,4,none⟩) (by simp) hTne).trans (by simp [go_sem])
  have e5:w2.cell? ⟨wr.heap.size,5,none⟩=some (.int .i64 lo):=(hk2.cell (p:=⟨wr.heap.size,5,none⟩) (by simp) hTne).trans (by simp [go_sem])
  have e6:w2.cell? ⟨wr.heap.size,6,none⟩=some (.int .i64 hi):=(hk2.cell (p:=⟨wr.heap.size,6,none⟩) (by simp) hTne).trans (by simp [go_sem])
  have e7:w2.cell? ⟨wr.heap.size,7,none⟩=some (.bool o):=(hk2.cell (p:=⟨wr.heap.size,7,none⟩) (by simp) hTne).trans (by simp [go_sem])
  have e8:w2.cell? ⟨wr.heap.size,8,none⟩=some (.slice ps ns cs):=(hk2.cell (p:=⟨wr.heap.size,8,none⟩) (by simp) hTne).trans (by simp [go_sem])
  have e9:w2.cell? ⟨wr.heap.size,9,none⟩=some (.slice pr nr cr):=(hk2.cell (p:=⟨wr.heap.size,9,none⟩) (by simp) hTne).trans (by simp [go_sem])
  have hK2:KeepT T w w2:=hK.trans ((KeepT.of ((Below.refl _ _).alloc (Nat.le_refl _) _)).trans hk2)
  have hz2:wr.heap.size<w2.heap.size:=by have:=hk2.size;simp at this;omega
  have HT2:Hid (Tal T Q1 w2):=ht2
  clear hk2 ht2 a0 a1 a2 a3 a4 a5 a6 a7 a8 a9 cM
  by_cases hE1:E1=0
  case neg=>
   have hE1'':(E1 != 0)=true:=by simp [hE1]
   have hR:Hid (R=(E1,Q1)):=hr2.out.trans (andT_ne hE1)
   go_wp2
   go_ret
   rw [hR.out]
   exact ⟨rfl,hK2,HT2.out,HO1.out⟩
  have hd2:dep≤24:=HL.out hE1
  subst hE1
  have hr3:Hid (R=_):=hr2.out.trans andT_eq
  have hB2:Below w0.heap.size w0 w2:=hw.trans (hK2.below hT0 (Nat.le_of_lt hTw))
  clear hr2 HL
  go_wp2_with fail
  refine (cC.out _ hB2).mono ?_
  rintro r w3 ⟨rfl,hb3⟩
  have g4:=(hb3.cell (p:=⟨wr.heap.size,4,none⟩) hz2).trans e4
  have g9:=(hb3.cell (p:=⟨wr.heap.size,9,none⟩) hz2).trans e9
  have g8:=(hb3.cell (p:=⟨wr.heap.size,8,none⟩) hz2).trans e8
  have hK3:KeepT T w w3:=hK2.trans (KeepT.of hb3)
  have HT3:Hid (Tal T Q1 w3):=HT2.out.below hb3
  have hB3:Below w0.heap.size w0 w3:=hw.trans (hK3.below hT0 (Nat.le_of_lt hTw))
  have hz3:wr.heap.size<w3.heap.size:=Nat.lt_of_lt_of_le hz2 hb3.size
  clear cC e0 e1 e2 e3 e4 e5 e6 e7 e8 e9 hb3 HT2 hB2
  by_cases hE2:E2=0
  case neg=>
   have hE2'':(E2 != 0)=true:=by simp [hE2]
   have hR:Hid (R=(E2,Q1)):=hr3.out.trans (andT_ne hE2)
   go_wp2
   go_ret
   rw [hR.out]
   exact ⟨rfl,hK3,HT3.out,HO1.out⟩
  subst hE2
  have hr4:Hid (R=_):=hr3.out.trans andT_eq
  clear hr3
  have hct:=cT.out w3 Q1 hB3 HT3.out HO1.out (by omega) (by omega)
  obtain ⟨⟨E3,Q3⟩,eq0⟩:∃ z,GT Q1=z:=⟨_,rfl⟩
  rw [eq0] at hct
  have hs0:Hid (R=andT (E3,Q3) fun s1=>andT (GR s1) fun s1=>andT (GF s1) fun s1=>fruns dep s1 (xs.drop (i+1))):=by have h:=hr4.out;rw [eq0] at h;exact h
  have CT:Hid (Calls Tryz.prog 124 #[.pointer (some ⟨T,0,none⟩),.int .i64 (dep+1),.slice pt nt ct] w3 fun r w'=>r=.returned (.int .i64 E3)∧KeepT T w3 w'∧Tal T Q3 w'∧OkS Q3):=hct
  clear hct cT eq0 hr4
  go_wp2_with fail
  refine CT.out.mono ?_
  rintro r w4 ⟨rfl,hk4,ht4,ho4⟩
  have hK4:KeepT T w w4:=hK3.trans hk4
  have HT4:Hid (Tal T Q3 w4):=ht4
  have HO4:Hid (OkS Q3):=ho4
  have hB4:Below w0.heap.size w0 w4:=hw.trans (hK4.below hT0 (Nat.le_of_lt hTw))
  have hz4:wr.heap.size<w4.heap.size:=Nat.lt_of_lt_of_le hz3 hk4.size
  have ga9:=(hk4.cell (p:=⟨wr.heap.size,9,none⟩) hz3 hTne).trans g9
  have ga8:=(hk4.cell (p:=⟨wr.heap.size,8,none⟩) hz3 hTne).trans g8
  clear CT hk4 ht4 ho4 g4 g9 g8
  by_cases hE3:E3=0
  case neg=>
   have hE':(E3 != 0)=true:=by simp [hE3]
   have hR:Hid (R=(E3,Q3)):=hs0.out.trans (andT_ne hE3)
   go_wp2
   go_ret
   rw [hR.out]
   exact ⟨rfl,hK4,HT4.out,HO4.out⟩
  subst hE3
  have hr5:Hid (R=_):=hs0.out.trans andT_eq
  clear hs0
  have hct:=cR.out w4 Q3 hB4 HT4.out HO4.out (by omega) (by omega)
  obtain ⟨⟨E4,Q4⟩,eq1⟩:∃ z,GR Q3=z:=⟨_,rfl⟩
  rw [eq1] at hct
  have hs1:Hid (R=andT (E4,Q4) fun s1=>andT (GF s1) fun s1=>fruns dep s1 (xs.drop (i+1))):=by have h:=hr5.out;rw [eq1] at h;exact h
  have CT:Hid (Calls Tryz.prog 125 #[.pointer (some ⟨T,0,none⟩),.int .i64 (dep+1),.slice pr nr cr] w4 fun r w'=>r=.returned (.int .i64 E4)∧KeepT T w4 w'∧Tal T Q4 w'∧OkS Q4):=hct
  clear hct cR eq1 hr5
  go_wp2_with fail
  refine CT.out.mono ?_
  rintro r w5 ⟨rfl,hk5,ht5,ho5⟩
  have hK5:KeepT T w w5:=hK4.trans hk5
  have HT5:Hid (Tal T Q4 w5):=ht5
  have HO5:Hid (OkS Q4):=ho5
  have hB5:Below w0.heap.size w0 w5:=hw.trans (hK5.below hT0 (Nat.le_of_lt hTw))
  have hz5:wr.heap.size<w5.heap.size:=Nat.lt_of_lt_of_le hz4 hk5.size
  have gb8:=(hk5.cell (p:=⟨wr.heap.size,8,none⟩) hz4 hTne).trans ga8
  clear CT hk5 ht5 ho5 ga9 ga8
  by_cases hE4:E4=0
  case neg=>
   have hE':(E4 != 0)=true:=by simp [hE4]
   have hR:Hid (R=(E4,Q4)):=hs1.out.trans (andT_ne hE4)
   go_wp2
   go_ret
   rw [hR.out]
   exact ⟨rfl,hK5,HT5.out,HO5.out⟩
  subst hE4
  have hr6:Hid (R=_):=hs1.out.trans andT_eq
  clear hs1
  have hct:=cF.out w5 Q4 hB5 HT5.out HO5.out (by omega) (by omega)
  obtain ⟨⟨E5,Q5⟩,eq2⟩:∃ z,GF Q4=z:=⟨_,rfl⟩
  rw [eq2] at hct
  have hs2:Hid (R=andT (E5,Q5) fun s1=>fruns dep s1 (xs.drop (i+1))):=by have h:=hr6.out;rw [eq2] at h;exact h
  have CT:Hid (Calls Tryz.prog 77 #[.pointer (some ⟨T,0,none⟩),.int .i64 (dep+1),.slice ps ns cs] w5 fun r w'=>r=.returned (.int .i64 E5)∧KeepT T w5 w'∧Tal T Q5 w'∧OkS Q5):=hct
  clear hct cF eq2 hr6
  go_wp2_with fail
  refine CT.out.mono ?_
  rintro r w6 ⟨rfl,hk6,ht6,ho6⟩
  have hK6:KeepT T w w6:=hK5.trans hk6
  have HT6:Hid (Tal T Q5 w6):=ht6
  have HO6:Hid (OkS Q5):=ho6
  have hB6:Below w0.heap.size w0 w6:=hw.trans (hK6.below hT0 (Nat.le_of_lt hTw))
  have hz6:wr.heap.size<w6.heap.size:=Nat.lt_of_lt_of_le hz5 hk6.size
  clear CT hk6 ht6 ho6 gb8
  by_cases hE5:E5=0
  case neg=>
   have hE':(E5 != 0)=true:=by simp [hE5]
   have hR:Hid (R=(E5,Q5)):=hs2.out.trans (andT_ne hE5)
   go_wp2
   go_ret
   rw [hR.out]
   exact ⟨rfl,hK6,HT6.out,HO6.out⟩
  subst hE5
  have hr7:Hid (R=_):=hs2.out.trans andT_eq
  clear hs2
  go_wp2
  exact ⟨⟨i+1,Q5,by omega,by go_num,hr7,hK6,HT6,HO6⟩,by simp [intOf];omega⟩
theorem fruns_one (dep:Int) (s:Int×Int) (f:Fm):fruns dep s [f]=frun dep s f:=by
 rw [fruns_cons]
 unfold andT
 by_cases h:(frun dep s f).1=0
 ·rw [if_pos h]
  show fruns dep _ []=_
  rw [fruns_nil]
  exact (pair0 h).symm
 ·rw [if_neg h]
def chkF (f:Fm):Int:=if (frun 1 (0,0) f).1=0 then (if 8<(fre f).2 then 30 else 0) else (frun 1 (0,0) f).1
def TalOut (w:World) (f:Fm) (r:Ending) (w':World):Prop:=Below w.heap.size w w'∧((¬ chkF f=0∧r=.returned (.tuple #[.agg #[.int .i64 0,.int .i64 0,.slice none 0 0],.int .i64 (chkF f)]))∨(chkF f=0∧∃ v,r=.returned (.tuple #[.agg #[.int .i64 (frun 1 (0,0) f).2.1,.int .i64 (frun 1 (0,0) f).2.2,v],.int .i64 0])∧NmsAt w' v (fre f).1))
theorem top_one {w0 w:World} {T X:Nat} {f:Fm} {q:FQ} (hq:QAt w0 (f,q)) (hX:X<w.heap.size∧X≠T) (hc:FmC w X 0 f q.v q.t q.s q.r):TopAt w0 w T (.slice (some ⟨X,0,none⟩) 1 1) [f]:=by
 refine ⟨_,_,rfl,by simp,by simp,fun i hi=>⟨X,0,q.v,q.t,q.s,q.r,rfl,hX, ?_⟩⟩
 rcases i with _ | i
 ·exact ⟨hc,hq.1,hq.2.1,hq.2.2.1,hq.2.2.2⟩
 ·simp at hi
theorem fms_one {W:World} {b:Nat} {f:Fm} {q:FQ} (hb:b<W.heap.size) (hq:QAt W (f,q)) (hc:FmC W b 0 f q.v q.t q.s q.r):FmsAt W (.slice (some ⟨b,0,none⟩) 1 1) [f]:=by
 refine .row (b:=b) (off:=0) (fs:=[f]) (fun _=>q.v) (fun _=>q.t) (fun _=>q.s) (fun _=>q.r) (by simp) (by simp) hb ?_ ?_ ?_ ?_ ?_<;>intro i hi<;>(rcases i with _ | i;·first | exact hc | exact hq.1 | exact hq.2.1 | exact hq.2.2.1 | exact hq.2.2.2)<;>simp at hi
theorem tallied_any (f:Fm) (q:FQ) (w:World) (hq:QAt w (f,q)):
  Calls Tryz.prog 34 #[.agg #[.int .i64 f.k,.string f.nm,.int .i64 f.op,q.v,q.t,.int .i64 f.lo,.int .i64 f.hi,.bool f.opn,q.s,q.r]] w (TalOut w f):=by
 have HQ:Hid (QAt w (f,q)):=hq
 obtain ⟨TO,eTO⟩:∃ TO,Hid (TalOut w f=TO):=⟨_,rfl⟩
 rw [eTO.out]
 have cF:Hid (∀ W:World,Below w.heap.size w W→Tal (w.heap.size+2) (0,0) W→w.heap.size+3<W.heap.size→FmC W (w.heap.size+3) 0 f q.v q.t q.s q.r→Calls Tryz.prog 77 #[.pointer (some ⟨w.heap.size+2,0,none⟩),.int .i64 1,.slice (some ⟨w.heap.size+3,0,none⟩) 1 1] W fun r w'=>r=.returned (.int .i64 (frun 1 (0,0) f).1)∧KeepT (w.heap.size+2) W w'∧Tal (w.heap.size+2) (frun 1 (0,0) f).2 w'∧OkS (frun 1 (0,0) f).2):=fun W hW hT hs hc=>by
  have h:=forms_top w (w.heap.size+2) (by omega) [f] _ 1 W (0,0) hW hT ⟨by decide,by decide,by decide,by decide⟩ (by decide) (by decide) (top_one HQ.out ⟨hs,by omega⟩ hc)
  rw [fruns_one] at h
  exact h
 have cE:Hid (∀ (W:World) (b:Nat),Below w.heap.size w W→b<W.heap.size→FmC W b 0 f q.v q.t q.s q.r→wfF f→nodF f≤256→Calls Tryz.prog 78 #[.slice (some ⟨b,0,none⟩) 1 1] W fun r w'=>Below W.heap.size W w'∧∃ v us,r=.returned (.tuple #[v,.int .i64 ((fre f).2:Nat)])∧OwnLN W.heap.size v us [(fre f).1] w'):=fun W b hW hb hc hok hn=>by
  have h:=feach_any _ [f] (.slice (some ⟨b,0,none⟩) 1 1) W (Nat.lt_succ_self _) (by rw [nodFs_cons,nodFs_nil];omega) (by rw [wfFs_cons,wfFs_nil];exact ⟨hok,trivial⟩) (fms_one hb (HQ.out.below hW) hc)
  refine h.mono fun r w' h=>⟨h.1, ?_⟩
  obtain ⟨v,us,h1,h2⟩:=h.2
  refine ⟨v,us, ?_,h2⟩
  rw [h1]
  have:mx ([f].map fun f=>(fre f).2)=(fre f).2:=by simp [mx]
  rw [this]
 have hgood:Hid ((frun 1 (0,0) f).1=0→OkS (frun 1 (0,0) f).2→wfF f∧nodF f≤256∧(fre f).2≤100000):=fun h hs=>by
  have h1:=fruns_good (fs:=[f]) (dep:=1) (s:=(0,0)) (by rw [fruns_one];exact pair0 h)
  rw [wfFs_cons,nodFs_cons,nodFs_nil] at h1
  have h2:((frun 1 (0,0) f).2).1≤256:=hs.2.1
  have h3:=fre_most _ f (Nat.le_refl _) h1.1.1
  refine ⟨h1.1.1, ?_, ?_⟩
  ·have:=h1.2;simp at this;omega
  ·have:=h1.2;simp at this;omega
 have hTO:Hid (∀ r w',Below w.heap.size w w'→((¬ chkF f=0∧r=.returned (.tuple #[.agg #[.int .i64 0,.int .i64 0,.slice none 0 0],.int .i64 (chkF f)]))∨(chkF f=0∧∃ v,r=.returned (.tuple #[.agg #[.int .i64 (frun 1 (0,0) f).2.1,.int .i64 (frun 1 (0,0) f).2.2,v],.int .i64 0])∧NmsAt w' v (fre f).1))→TO r w'):=fun r w' h1 h2=>by
  rw [← eTO.out]
  exact ⟨h1,h2⟩
 have hchk:Hid (chkF f=if (frun 1 (0,0) f).1=0 then (if 8<(fre f).2 then 30 else 0) else (frun 1 (0,0) f).1):=rfl
 obtain ⟨uv,ut,us,ur⟩:=q
 obtain ⟨h1,h2,h3,h4⟩:=hq
 dsimp only at h1 h2 h3 h4 cF cE ⊢
 obtain ⟨-,pv,cv,rfl, -, -⟩:=h1
 obtain ⟨pt,ct,rfl, -⟩:=h2.form
 obtain ⟨ps,cs,rfl, -⟩:=h3.form
 obtain ⟨pr,cr,rfl, -⟩:=h4.form
 clear h2 h3 h4 HQ eTO
 have cF2:Hid (∀ W:World,Below w.heap.size w W→Tal (w.heap.size+1+1) (0,0) W→w.heap.size+1+1+1<W.heap.size→W.cell? ⟨w.heap.size+1+1+1,0,none⟩=some (.int .i64 f.k)→W.cell? ⟨w.heap.size+1+1+1,1,none⟩=some (.string f.nm)→W.cell? ⟨w.heap.size+1+1+1,2,none⟩=some (.int .i64 f.op)→W.cell? ⟨w.heap.size+1+1+1,3,none⟩=some (.slice pv f.vars.length cv)→W.cell? ⟨w.heap.size+1+1+1,4,none⟩=some (.slice pt f.terms.length ct)→W.cell? ⟨w.heap.size+1+1+1,5,none⟩=some (.int .i64 f.lo)→W.cell? ⟨w.heap.size+1+1+1,6,none⟩=some (.int .i64 f.hi)→W.cell? ⟨w.heap.size+1+1+1,7,none⟩=some (.bool f.opn)→W.cell? ⟨w.heap.size+1+1+1,8,none⟩=some (.slice ps f.subs.length cs)→W.cell? ⟨w.heap.size+1+1+1,9,none⟩=some (.slice pr f.rgx.length cr)→Calls Tryz.prog 77 #[.pointer (some ⟨w.heap.size+1+1,0,none⟩),.int .i64 1,.slice (some ⟨w.heap.size+1+1+1,0,none⟩) 1 1] W fun r w'=>r=.returned (.int .i64 (frun 1 (0,0) f).1)∧KeepT (w.heap.size+1+1) W w'∧Tal (w.heap.size+1+1) (frun 1 (0,0) f).2 w'∧OkS (frun 1 (0,0) f).2):=fun W a b c d0 d1 d2 d3 d4 d5 d6 d7 d8 d9=>cF.out W a b c ⟨d0,d1,d2,d3,d4,d5,d6,d7,d8,d9⟩
 have cE2:Hid (∀ (W:World) (b:Nat),Below w.heap.size w W→b<W.heap.size→W.cell? ⟨b,0,none⟩=some (.int .i64 f.k)→W.cell? ⟨b,1,none⟩=some (.string f.nm)→W.cell? ⟨b,2,none⟩=some (.int .i64 f.op)→W.cell? ⟨b,3,none⟩=some (.slice pv f.vars.length cv)→W.cell? ⟨b,4,none⟩=some (.slice pt f.terms.length ct)→W.cell? ⟨b,5,none⟩=some (.int .i64 f.lo)→W.cell? ⟨b,6,none⟩=some (.int .i64 f.hi)→W.cell? ⟨b,7,none⟩=some (.bool f.opn)→W.cell? ⟨b,8,none⟩=some (.slice ps f.subs.length cs)→W.cell? ⟨b,9,none⟩=some (.slice pr f.rgx.length cr)→wfF f→nodF f≤256→Calls Tryz.prog 78 #[.slice (some ⟨b,0,none⟩) 1 1] W fun r w'=>Below W.heap.size W w'∧∃ v us,r=.returned (.tuple #[v,.int .i64 ((fre f).2:Nat)])∧OwnLN W.heap.size v us [(fre f).1] w'):=fun W b a c d0 d1 d2 d3 d4 d5 d6 d7 d8 d9=>cE.out W b a c ⟨d0,d1,d2,d3,d4,d5,d6,d7,d8,d9⟩
 clear cF cE
 generalize chkF f=CK at*
 generalize frun 1 (0,0) f=FR at*
 obtain ⟨E,S⟩:=FR
 dsimp only at*
 generalize (fre f).1=R at*
 generalize (fre f).2=M at*
 generalize f.vars.length=nv at*
 generalize f.terms.length=nt at*
 generalize f.subs.length=ns at*
 generalize f.rgx.length=nr at*
 generalize f.lo=lo at*
 generalize f.hi=hi at*
 generalize f.nm=nm at*
 generalize f.opn=o at*
 generalize f.op=op at*
 generalize f.k=k at*
 go_enter Tryz.func34,Tryz.ntmps34
 go_wp2_with fail
 refine (cF2.out _ (by go_grown) (by refine Tal.alloc ?_ _;unfold Tal;simpa using heap_allocA ((w.alloc _).alloc _) (Obj.cells #[.int .i64 0,.int .i64 0,.slice none 0 0] 78)) (by simp) (by simp [go_sem]) (by simp [go_sem]) (by simp [go_sem]) (by simp [go_sem]) (by simp [go_sem]) (by simp [go_sem]) (by simp [go_sem]) (by simp [go_sem]) (by simp [go_sem]) (by simp [go_sem])).mono ?_
 rintro r w1 ⟨rfl,hk1,ht1,hs1⟩
 have e0:w1.cell? ⟨w.heap.size,0,none⟩=some (.int .i64 k):=(hk1.cell (p:=⟨w.heap.size,0,none⟩) (by first | (simp;done) | (simp;omega)) (by first | (simp;done) | (simp;omega))).trans (by simp [go_sem])
 have e1:w1.cell? ⟨w.heap.size,1,none⟩=some (.string nm):=(hk1.cell (p:=⟨w.heap.size,1,none⟩) (by first | (simp;done) | (simp;omega)) (by first | (simp;done) | (simp;omega))).trans (by simp [go_sem])
 have e2:w1.cell? ⟨w.heap.size,2,none⟩=some (.int .i64 op):=(hk1.cell (p:=⟨w.heap.size,2,none⟩) (by first | (simp;done) | (simp;omega)) (by first | (simp;done) | (simp;omega))).trans (by simp [go_sem])
 have e3:w1.cell? ⟨w.heap.size,3,none⟩=some (.slice pv nv cv):=(hk1.cell (p:=⟨w.heap.size,3,none⟩) (by first | (simp;done) | (simp;omega)) (by first | (simp;done) | (simp;omega))).trans (by simp [go_sem])
 have e4:w1.cell? ⟨w.heap.size,4,none⟩=some (.slice pt nt ct):=(hk1.cell (p:=⟨w.heap.size,4,none⟩) (by first | (simp;done) | (simp;omega)) (by first | (simp;done) | (simp;omega))).trans (by simp [go_sem])
 have e5:w1.cell? ⟨w.heap.size,5,none⟩=some (.int .i64 lo):=(hk1.cell (p:=⟨w.heap.size,5,none⟩) (by first | (simp;done) | (simp;omega)) (by first | (simp;done) | (simp;omega))).trans (by simp [go_sem])
 have e6:w1.cell? ⟨w.heap.size,6,none⟩=some (.int .i64 hi):=(hk1.cell (p:=⟨w.heap.size,6,none⟩) (by first | (simp;done) | (simp;omega)) (by first | (simp;done) | (simp;omega))).trans (by simp [go_sem])
 have e7:w1.cell? ⟨w.heap.size,7,none⟩=some (.bool o):=(hk1.cell (p:=⟨w.heap.size,7,none⟩) (by first | (simp;done) | (simp;omega)) (by first | (simp;done) | (simp;omega))).trans (by simp [go_sem])
 have e8:w1.cell? ⟨w.heap.size,8,none⟩=some (.slice ps ns cs):=(hk1.cell (p:=⟨w.heap.size,8,none⟩) (by first | (simp;done) | (simp;omega)) (by first | (simp;done) | (simp;omega))).trans (by simp [go_sem])
 have e9:w1.cell? ⟨w.heap.size,9,none⟩=some (.slice pr nr cr):=(hk1.cell (p:=⟨w.heap.size,9,none⟩) (by first | (simp;done) | (simp;omega)) (by first | (simp;done) | (simp;omega))).trans (by simp [go_sem])
 have g0:w1.cell? ⟨w.heap.size+1,0,none⟩=some (.int .i64 0):=(hk1.cell (p:=⟨w.heap.size+1,0,none⟩) (by first | (simp;done) | (simp;omega)) (by first | (simp;done) | (simp;omega))).trans (by simp [go_sem])
 have g1:w1.cell? ⟨w.heap.size+1,1,none⟩=some (.int .i64 0):=(hk1.cell (p:=⟨w.heap.size+1,1,none⟩) (by first | (simp;done) | (simp;omega)) (by first | (simp;done) | (simp;omega))).trans (by simp [go_sem])
 have g2:w1.cell? ⟨w.heap.size+1,2,none⟩=some (.slice none 0 0):=(hk1.cell (p:=⟨w.heap.size+1,2,none⟩) (by first | (simp;done) | (simp;omega)) (by first | (simp;done) | (simp;omega))).trans (by simp [go_sem])
 have f0:w1.frozen? ⟨w.heap.size+1,0,none⟩=false:=(World.frozen?_of_block (a:=⟨w.heap.size+1,0,none⟩) (hk1.block (w.heap.size+1) (by first | (simp;done) | (simp;omega)) (by first | (simp;done) | (simp;omega)))).trans (by simp [go_sem])
 have f1:w1.frozen? ⟨w.heap.size+1,1,none⟩=false:=(World.frozen?_of_block (a:=⟨w.heap.size+1,1,none⟩) (hk1.block (w.heap.size+1) (by first | (simp;done) | (simp;omega)) (by first | (simp;done) | (simp;omega)))).trans (by simp [go_sem])
 have f2:w1.frozen? ⟨w.heap.size+1,2,none⟩=false:=(World.frozen?_of_block (a:=⟨w.heap.size+1,2,none⟩) (hk1.block (w.heap.size+1) (by first | (simp;done) | (simp;omega)) (by first | (simp;done) | (simp;omega)))).trans (by simp [go_sem])
 have hB1:Below w.heap.size w w1:=Below.trans (by go_grown) (hk1.below (B:=w.heap.size) (by omega) (by first | (simp;done) | (simp;omega)))
 have hz1:w.heap.size+1+1<w1.heap.size:=ht1.lt
 clear hk1 cF2
 by_cases hE:E=0
 case neg=>
  have hck:Hid (CK=E):=by have h:=hchk.out;rw [if_neg hE] at h;exact h
  have hE':(E != 0)=true:=by simp [hE]
  go_wp2
  refine bodyPost_ret (by simp [results,Tryz.results34,go_sem,g0,g1,g2];try rfl) rfl ?_
  refine hTO.out _ _ ?_ (Or.inl ⟨by rw [hck.out];exact hE,by rw [hck.out]⟩)
  exact hB1.trans (by go_grown)
 subst hE
 obtain ⟨hok,hn,hM⟩:=hgood.out rfl hs1
 have HT1:Hid (Tal (w.heap.size+1+1) S w1):=ht1
 clear ht1 hs1 hgood
 go_wp2_with fail
 refine (cE2.out _ w1.heap.size (hB1.alloc (by omega) _) (by simp) (by simp [go_sem]) (by simp [go_sem]) (by simp [go_sem]) (by simp [go_sem]) (by simp [go_sem]) (by simp [go_sem]) (by simp [go_sem]) (by simp [go_sem]) (by simp [go_sem]) (by simp [go_sem]) hok hn).mono ?_
 rintro r w2 ⟨hb2,v2,us2,rfl,hL2⟩
 have hB2:Below w.heap.size w w2:=(hB1.alloc (by omega) _).trans (hb2.mono (by simp;omega))
 have HT2:Tal (w.heap.size+1+1) S w2:=(HT1.out.alloc _).below hb2
 have t0:w2.cell? ⟨w.heap.size+1+1,0,none⟩=some (.int .i64 S.1):=by rw [Lib.cell_of_heap HT2];rfl
 have t1:w2.cell? ⟨w.heap.size+1+1,1,none⟩=some (.int .i64 S.2):=by rw [Lib.cell_of_heap HT2];rfl
 have t2:w2.cell? ⟨w.heap.size+1+1,2,none⟩=some (.slice none 0 0):=by rw [Lib.cell_of_heap HT2];rfl
 have tf:w2.frozen? ⟨w.heap.size+1+1,2,none⟩=false:=Lib.frozen_of_heap HT2 2
 have hz2:w.heap.size+1+1<w2.heap.size:=HT2.lt
 have g0:w2.cell? ⟨w.heap.size+1,0,none⟩=some (.int .i64 0):=(hb2.cell (p:=⟨w.heap.size+1,0,none⟩) (by simp;omega)).trans ((((Below.refl w1.heap.size w1).alloc (Nat.le_refl _) _).cell (p:=⟨w.heap.size+1,0,none⟩) (by show w.heap.size+1<_;omega)).trans g0)
 have f0:w2.frozen? ⟨w.heap.size+1,0,none⟩=false:=(World.frozen?_of_block (a:=⟨w.heap.size+1,0,none⟩) (hb2.block (w.heap.size+1) (by simp;omega))).trans ((World.frozen?_alloc_old w1 _ ⟨w.heap.size+1,0,none⟩ (by show w.heap.size+1≠_;omega)).trans f0)
 have g1:w2.cell? ⟨w.heap.size+1,1,none⟩=some (.int .i64 0):=(hb2.cell (p:=⟨w.heap.size+1,1,none⟩) (by simp;omega)).trans ((((Below.refl w1.heap.size w1).alloc (Nat.le_refl _) _).cell (p:=⟨w.heap.size+1,1,none⟩) (by show w.heap.size+1<_;omega)).trans g1)
 have f1:w2.frozen? ⟨w.heap.size+1,1,none⟩=false:=(World.frozen?_of_block (a:=⟨w.heap.size+1,1,none⟩) (hb2.block (w.heap.size+1) (by simp;omega))).trans ((World.frozen?_alloc_old w1 _ ⟨w.heap.size+1,1,none⟩ (by show w.heap.size+1≠_;omega)).trans f1)
 have g2:w2.cell? ⟨w.heap.size+1,2,none⟩=some (.slice none 0 0):=(hb2.cell (p:=⟨w.heap.size+1,2,none⟩) (by simp;omega)).trans ((((Below.refl w1.heap.size w1).alloc (Nat.le_refl _) _).cell (p:=⟨w.heap.size+1,2,none⟩) (by show w.heap.size+1<_;omega)).trans g2)
 have f2:w2.frozen? ⟨w.heap.size+1,2,none⟩=false:=(World.frozen?_of_block (a:=⟨w.heap.size+1,2,none⟩) (hb2.block (w.heap.size+1) (by simp;omega))).trans ((World.frozen?_alloc_old w1 _ ⟨w.heap.size+1,2,none⟩ (by show w.heap.size+1≠_;omega)).trans f2)
 have hu0:0<us2.length:=by rw [hL2.2.1];simp
 have HO2:Hid (OwnN (w1.heap.size+1) us2[0] R w2):=by have h:=hL2.2.2.2 0 (by rw [hL2.2.1];simp) (by simp);simp at h;exact h
 have lR:R.length≤9223372036854775807:=hL2.2.2.1 R (by simp)
 obtain ⟨hus,p2,c2,rfl,ha,hb⟩:=hL2.lsts
 have hus1:us2.length=1:=hus
 obtain ⟨b2,off2,rfl,hb2',hc2⟩:=ha 0 (by omega)
 have HN2:Hid (NmsAt w2 us2[0] R):=hb 0 (by omega) (by simp)
 rw [Nat.add_zero] at hc2
 rw [hus1]
 obtain ⟨-,p4,c4,ee, -⟩:=HN2.out
 rw [ee] at hc2 HO2
 have hT2':Hid (Tal (w.heap.size+1+1) S w2):=HT2
 clear hb2 cE2 HT1 HT2 HN2 hL2 ha hb hus hus1 ee hu0 e0 e1 e2 e3 e4 e5 e6 e7 e8 e9
 by_cases hM8:8<M
 ·have hck:Hid (CK=30):=by have h:=hchk.out;rw [if_pos trivial,if_pos hM8] at h;exact h
  have hM':(8:Int)<M:=by omega
  go_wp2
  refine bodyPost_ret (by simp [results,Tryz.results34,go_sem,g0,g1,g2];try rfl) rfl ?_
  refine hTO.out _ _ ?_ (Or.inl ⟨by rw [hck.out];decide,by rw [hck.out]⟩)
  exact hB2.trans (by go_grown)
 ·have hck:Hid (CK=0):=by have h:=hchk.out;rw [if_pos trivial,if_neg hM8] at h;exact h
  have hM':¬ (8:Int)<M:=by omega
  have hf:Hid (∀ (W:World),(∀ q,w1.heap.size+1≤q→W.heap[q]? =w2.heap[q]?)→NmsAt W (.slice p4 R.length c4) R):=fun W hW=>OwnN.nms (B:=w1.heap.size+1) (own_keepP HO2.out fun q hq _=>hW q (World.ownsRow.lt HO2.out q hq).1) lR
  go_wp2
  refine bodyPost_ret (by simp [results,Tryz.results34,go_sem,g0,g1,g2];try rfl) rfl ?_
  refine hTO.out _ _ ?_ (Or.inr ⟨hck.out,_,rfl,hf.out _ fun q hq=> ?_⟩)
  ·exact hB2.trans (by go_grown)
  ·rw [set_block (by omega),set_block (by omega),set_block (by omega),set_block (by omega)]
def sizF (f:Fm):Int×Int:=if chkF f=0 then (frun 1 (0,0) f).2 else (0,0)
def varF (f:Fm):List ByteArray:=if chkF f=0 then (fre f).1 else []
theorem talOut_all {w w':World} {f:Fm} {r:Ending} (h:TalOut w f r w'):Below w.heap.size w w'∧∃ p c,r=.returned (.tuple #[.agg #[.int .i64 (sizF f).1,.int .i64 (sizF f).2,.slice p (varF f).length c],.int .i64 (chkF f)])∧NmsAt w' (.slice p (varF f).length c) (varF f):=by
 obtain ⟨hb,⟨h0,h1⟩ | ⟨h0,v,h1,h2⟩⟩:=h
 ·refine ⟨hb,none,0, ?_⟩
  have e1:sizF f=(0,0):=if_neg h0
  have e2:varF f=[]:=if_neg h0
  rw [e1,e2]
  exact ⟨h1,by simp,none,0,rfl,by simp,Or.inl rfl⟩
 ·have e1:sizF f=(frun 1 (0,0) f).2:=if_pos h0
  have e2:varF f=(fre f).1:=if_pos h0
  obtain ⟨p,c,rfl, -⟩:=h2.form
  refine ⟨hb,p,c, ?_⟩
  rw [e1,e2,h0]
  exact ⟨h1,h2⟩
theorem check_fm (f:Fm) (q:FQ) (w:World) (hq:QAt w (f,q)):Calls Tryz.prog 19 #[.agg #[.int .i64 f.k,.string f.nm,.int .i64 f.op,q.v,q.t,.int .i64 f.lo,.int .i64 f.hi,.bool f.opn,q.s,q.r]] w fun r w'=>r=.returned (.int .i64 (chkF f))∧Below w.heap.size w w':=by
 have cT:Hid (∀ W:World,Below w.heap.size w W→Calls Tryz.prog 34 #[.agg #[.int .i64 f.k,.string f.nm,.int .i64 f.op,q.v,q.t,.int .i64 f.lo,.int .i64 f.hi,.bool f.opn,q.s,q.r]] W fun r w'=>Below W.heap.size W w'∧∃ p c,r=.returned (.tuple #[.agg #[.int .i64 (sizF f).1,.int .i64 (sizF f).2,.slice p (varF f).length c],.int .i64 (chkF f)])):=fun W hW=>(tallied_any f q W (hq.below hW)).mono fun r w' h=>by
  obtain ⟨h1,p,c,h2,h3⟩:=talOut_all h
  exact ⟨h1,p,c,h2⟩
 obtain ⟨uv,ut,us,ur⟩:=q
 obtain ⟨h1,h2,h3,h4⟩:=hq
 dsimp only at h1 h2 h3 h4 cT ⊢
 obtain ⟨-,pv,cv,rfl, -, -⟩:=h1
 obtain ⟨pt,ct,rfl, -⟩:=h2.form
 obtain ⟨ps,cs,rfl, -⟩:=h3.form
 obtain ⟨pr,cr,rfl, -⟩:=h4.form
 clear h2 h3 h4
 generalize chkF f=CK at*
 generalize sizF f=SZ at*
 generalize (varF f).length=nR at*
 generalize f.vars.length=nv at*
 generalize f.terms.length=nt at*
 generalize f.subs.length=ns at*
 generalize f.rgx.length=nr at*
 generalize f.lo=lo at*
 generalize f.hi=hi at*
 generalize f.nm=nm at*
 generalize f.opn=o at*
 generalize f.op=op at*
 generalize f.k=k at*
 go_enter Tryz.func19,Tryz.ntmps19
 go_wp2_with fail
 refine (cT.out _ (by go_grown)).mono ?_
 rintro r w1 ⟨hb,p,c,rfl⟩
 have hB:Below w.heap.size w w1:=Below.trans (by go_grown) (hb.mono (by simp))
 have hz:=hB.size
 clear cT hb
 go_wp2
 go_ret
 exact ⟨rfl,hB.alloc hz _⟩
def tcs (x:Tm×Value):List Value:=[.int .i64 x.1.k,.string x.1.nm,.int .i64 x.1.v.k,.int .i64 x.1.v.n,.int .i64 x.1.v.d,.string x.1.v.s,x.2]
def flatTm (ps:List (Tm×Value)):List Value:=ps.flatMap tcs
theorem flatTm_append (xs ys:List (Tm×Value)):flatTm (xs++ys)=flatTm xs++flatTm ys:=by simp [flatTm]
theorem flatTm_get:∀ (xs:List (Tm×Value)) (i j:Nat) (h:i<xs.length),j<7→(flatTm xs)[i*7+j]? =(tcs xs[i])[j]?
 | [],i,j,h,_=>by simp at h
 | x::l,0,j,h,hj=>by
  show (tcs x++flatTm l)[0*7+j]? =_
  rw [List.getElem?_append_left (by simp [tcs];omega)]
  simp
 | x::l,i+1,j,h,hj=>by
  show (tcs x++flatTm l)[(i+1)*7+j]? =_
  rw [List.getElem?_append_right (by simp [tcs];omega),show (i+1)*7+j - (tcs x).length=i*7+j by simp [tcs];omega]
  exact flatTm_get l i j (by simpa using h) hj
inductive TmsOwn (P:Nat→Prop) (w:World):Value→List Tm→Prop
 | mk {v:Value} {ts:List Tm} (ps:List (Tm×Value)) (e:ps.map Prod.fst=ts) (hl:ts.length≤9223372036854775807) (fit:∀ x∈ps,x.1.v.Fits) (row:w.ownsRow 0 41 7 v ts.length (flatTm ps)) (pl:∀ q,v.ownBlock=some q→P q) (sub:∀ x∈ps,TmsOwn P w x.2 x.1.subs):TmsOwn P w v ts
theorem TmsOwn.keep {P:Nat→Prop} {w w':World} {v:Value} {ts:List Tm} (h:TmsOwn P w v ts) (hk:∀ q,P q→q<w.heap.size→w'.heap[q]? =w.heap[q]?):TmsOwn P w' v ts:=by
 induction h with
 | mk ps e hl fit row pl sub ih=>exact .mk ps e hl fit (own_keepP row (fun q hq=>hk q (pl q hq))) pl ih
theorem TmsOwn.mono {P P':Nat→Prop} {w:World} {v:Value} {ts:List Tm} (h:TmsOwn P w v ts) (hP:∀ q,P q→q<w.heap.size→P' q):TmsOwn P' w v ts:=by
 induction h with
 | mk ps e hl fit row pl sub ih=>exact .mk ps e hl fit row (fun q hq=>hP q (pl q hq) (own_lt row hq)) ih
theorem TmsOwn.at {P:Nat→Prop} {w:World} {v:Value} {ts:List Tm} (h:TmsOwn P w v ts):TmsAt w v ts:=by
 induction h with
 | @mk v ts ps e hl fit row pl sub ih=>
  subst e
  have row':=row
  obtain ⟨hL,⟨rfl,hn0⟩ | ⟨g,cap,cur,rfl,hg1,hg2,hg3,hg4,hg5,hg6⟩⟩:=row
  ·rw [List.length_eq_zero_iff.1 hn0]
   exact .nil
  ·have hg:=(Array.getElem?_eq_some_iff.1 hg2).1
   have hp:∀ i,i<(ps.map Prod.fst).length→i<ps.length:=fun i hi=>by simpa using hi
   refine .row (b:=g) (off:=0) (fun i=>if h:i<ps.length then ps[i].2 else .bool false) hl (fun i hi=>by rw [List.getElem_map];exact fit _ (List.getElem_mem _)) hg3 hg (fun i hi=> ?_) (fun i hi=> ?_)
   ·have hi':=hp i hi
    have C:∀ j,j<7→w.cell? ⟨g,0+i*7+j,none⟩=(tcs ps[i])[j]?:=fun j hj=>by
     rw [Nat.zero_add,row'.cellAt _ (by simp;omega)]
     exact flatTm_get ps i j hi' hj
    rw [List.getElem_map,dif_pos hi']
    exact ⟨(C 0 (by omega)).trans rfl,(C 1 (by omega)).trans rfl,(C 2 (by omega)).trans rfl,(C 3 (by omega)).trans rfl,(C 4 (by omega)).trans rfl,(C 5 (by omega)).trans rfl,(C 6 (by omega)).trans rfl⟩
   ·have hi':=hp i hi
    rw [List.getElem_map,dif_pos hi']
    exact ih _ (List.getElem_mem _)
theorem TmsOwn.nil (P:Nat→Prop) (w:World):TmsOwn P w (.slice none 0 0) []:=.mk [] rfl (by simp) (fun x hx=>by simp at hx) ⟨rfl,.inl ⟨rfl,rfl⟩⟩ (fun q hq=>by simp [Value.ownBlock] at hq) (fun x hx=>by simp at hx)
theorem inTmA:(Tryz.prog.info? 41).map (fun i=>(i.zero,i.size,i.bytes))=some (some (.agg #[.int .i64 0,.string ByteArray.empty,.int .i64 0,.int .i64 0,.int .i64 0,.string ByteArray.empty,.slice none 0 0]),7,88):=by kernel_rfl
def NmsOwn (P:Nat→Prop) (w:World) (v:Value) (vs:List ByteArray):Prop:=w.ownsRow 0 9 1 v vs.length (vs.map Value.string)∧vs.length≤9223372036854775807∧∀ q,v.ownBlock=some q→P q
theorem NmsOwn.keep {P:Nat→Prop} {w w':World} {v:Value} {vs:List ByteArray} (h:NmsOwn P w v vs) (hk:∀ q,P q→q<w.heap.size→w'.heap[q]? =w.heap[q]?):NmsOwn P w' v vs:=⟨own_keepP h.1 (fun q hq=>hk q (h.2.2 q hq)),h.2.1,h.2.2⟩
theorem NmsOwn.mono {P P':Nat→Prop} {w:World} {v:Value} {vs:List ByteArray} (h:NmsOwn P w v vs) (hP:∀ q,P q→q<w.heap.size→P' q):NmsOwn P' w v vs:=⟨h.1,h.2.1,fun q hq=>hP q (h.2.2 q hq) (own_lt h.1 hq)⟩
theorem NmsOwn.at {P:Nat→Prop} {w:World} {v:Value} {vs:List ByteArray} (h:NmsOwn P w v vs):NmsAt w v vs:=OwnN.nms (B:=0) h.1 h.2.1
def rcs (x:Rx×(Value×Value)):List Value:=[.int .i64 x.1.k,x.2.1,x.2.2]
def flatR (ps:List (Rx×(Value×Value))):List Value:=ps.flatMap rcs
theorem flatR_append (xs ys:List (Rx×(Value×Value))):flatR (xs++ys)=flatR xs++flatR ys:=by simp [flatR]
theorem flatR_get:∀ (xs:List (Rx×(Value×Value))) (i j:Nat) (h:i<xs.length),j<3→(flatR xs)[i*3+j]? =(rcs xs[i])[j]?
 | [],i,j,h,_=>by simp at h
 | x::l,0,j,h,hj=>by
  show (rcs x++flatR l)[0*3+j]? =_
  rw [List.getElem?_append_left (by simp [rcs];omega)]
  simp
 | x::l,i+1,j,h,hj=>by
  show (rcs x++flatR l)[(i+1)*3+j]? =_
  rw [List.getElem?_append_right (by simp [rcs];omega),show (i+1)*3+j - (rcs x).length=i*3+j by simp [rcs];omega]
  exact flatR_get l i j (by simpa using h) hj
section
mutual
inductive FmsOwn (P:Nat→Prop) (w:World):Value→List Fm→Prop
 | mk {v:Value} {fs:List Fm} (ps:List (Fm×FQ)) (e:ps.map Prod.fst=fs) (hl:fs.length≤9223372036854775807) (row:w.ownsRow 0 29 10 v fs.length (flatF ps)) (pl:∀ q,v.ownBlock=some q→P q) (vars:∀ x∈ps,NmsOwn P w x.2.v x.1.vars) (terms:∀ x∈ps,TmsOwn P w x.2.t x.1.terms) (sub:∀ x∈ps,FmsOwn P w x.2.s x.1.subs) (rgx:∀ x∈ps,RxsOwn P w x.2.r x.1.rgx):FmsOwn P w v fs
inductive RxsOwn (P:Nat→Prop) (w:World):Value→List Rx→Prop
 | mk {v:Value} {rs:List Rx} (ps:List (Rx×(Value×Value))) (e:ps.map Prod.fst=rs) (hl:rs.length≤9223372036854775807) (row:w.ownsRow 0 91 3 v rs.length (flatR ps)) (pl:∀ q,v.ownBlock=some q→P q) (test:∀ x∈ps,FmsOwn P w x.2.1 x.1.test) (sub:∀ x∈ps,RxsOwn P w x.2.2 x.1.subs):RxsOwn P w v rs
end
end
theorem mem_fst {α β:Type} [SizeOf α] {ps:List (α×β)} {fs:List α} (e:ps.map Prod.fst=fs) {x:α×β} (h:x∈ps):SizeOf.sizeOf x.1<SizeOf.sizeOf fs:=by
 subst e
 exact List.sizeOf_lt_of_mem (List.mem_map.2 ⟨x,h,rfl⟩)
theorem both_keep {P:Nat→Prop} {w w':World} (hk:∀ q,P q→q<w.heap.size→w'.heap[q]? =w.heap[q]?):∀ n,(∀ (v:Value) (fs:List Fm),SizeOf.sizeOf fs≤n→FmsOwn P w v fs→FmsOwn P w' v fs)∧(∀ (v:Value) (rs:List Rx),SizeOf.sizeOf rs≤n→RxsOwn P w v rs→RxsOwn P w' v rs):=by
 intro n
 induction n with
 | zero=>exact ⟨fun v fs hn h=>by cases fs<;>simp at hn,fun v rs hn h=>by cases rs<;>simp at hn⟩
 | succ n ih=>
  refine ⟨fun v fs hn h=> ?_,fun v rs hn h=> ?_⟩
  ·cases h with
   | mk ps e hl row pl vars terms sub rgx=>
    exact .mk ps e hl (own_keepP row (fun q hq=>hk q (pl q hq))) pl (fun x hx=>(vars x hx).keep hk) (fun x hx=>(terms x hx).keep hk)
     (fun x hx=>ih.1 _ _ (by have:=mem_fst e hx;have:=Fm.subs_lt x.1;omega) (sub x hx)) (fun x hx=>ih.2 _ _ (by have:=mem_fst e hx;have:=Fm.rgx_lt x.1;omega) (rgx x hx))
  ·cases h with
   | mk ps e hl row pl test sub=>
    exact .mk ps e hl (own_keepP row (fun q hq=>hk q (pl q hq))) pl
     (fun x hx=>ih.1 _ _ (by have:=mem_fst e hx;have:=Rx.test_lt x.1;omega) (test x hx)) (fun x hx=>ih.2 _ _ (by have:=mem_fst e hx;have:=Rx.subs_lt x.1;omega) (sub x hx))
theorem FmsOwn.keep {P:Nat→Prop} {w w':World} {v:Value} {fs:List Fm} (h:FmsOwn P w v fs) (hk:∀ q,P q→q<w.heap.size→w'.heap[q]? =w.heap[q]?):FmsOwn P w' v fs:=(both_keep hk _).1 v fs (Nat.le_refl _) h
theorem RxsOwn.keep {P:Nat→Prop} {w w':World} {v:Value} {rs:List Rx} (h:RxsOwn P w v rs) (hk:∀ q,P q→q<w.heap.size→w'.heap[q]? =w.heap[q]?):RxsOwn P w' v rs:=(both_keep hk _).2 v rs (Nat.le_refl _) h
theorem both_mono {P P':Nat→Prop} {w:World} (hP:∀ q,P q→q<w.heap.size→P' q):∀ n,(∀ (v:Value) (fs:List Fm),SizeOf.sizeOf fs≤n→FmsOwn P w v fs→FmsOwn P' w v fs)∧(∀ (v:Value) (rs:List Rx),SizeOf.sizeOf rs≤n→RxsOwn P w v rs→RxsOwn P' w v rs):=by
 intro n
 induction n with
 | zero=>exact ⟨fun v fs hn h=>by cases fs<;>simp at hn,fun v rs hn h=>by cases rs<;>simp at hn⟩
 | succ n ih=>
  refine ⟨fun v fs hn h=> ?_,fun v rs hn h=> ?_⟩
  ·cases h with
   | mk ps e hl row pl vars terms sub rgx=>
    exact .mk ps e hl row (fun q hq=>hP q (pl q hq) (own_lt row hq)) (fun x hx=>(vars x hx).mono hP) (fun x hx=>(terms x hx).mono hP)
     (fun x hx=>ih.1 _ _ (by have:=mem_fst e hx;have:=Fm.subs_lt x.1;omega) (sub x hx)) (fun x hx=>ih.2 _ _ (by have:=mem_fst e hx;have:=Fm.rgx_lt x.1;omega) (rgx x hx))
  ·cases h with
   | mk ps e hl row pl test sub=>
    exact .mk ps e hl row (fun q hq=>hP q (pl q hq) (own_lt row hq))
     (fun x hx=>ih.1 _ _ (by have:=mem_fst e hx;have:=Rx.test_lt x.1;omega) (test x hx)) (fun x hx=>ih.2 _ _ (by have:=mem_fst e hx;have:=Rx.subs_lt x.1;omega) (sub x hx))
theorem FmsOwn.mono {P P':Nat→Prop} {w:World} {v:Value} {fs:List Fm} (h:FmsOwn P w v fs) (hP:∀ q,P q→q<w.heap.size→P' q):FmsOwn P' w v fs:=(both_mono hP _).1 v fs (Nat.le_refl _) h
theorem RxsOwn.mono {P P':Nat→Prop} {w:World} {v:Value} {rs:List Rx} (h:RxsOwn P w v rs) (hP:∀ q,P q→q<w.heap.size→P' q):RxsOwn P' w v rs:=(both_mono hP _).2 v rs (Nat.le_refl _) h
theorem both_at {P:Nat→Prop} {w:World}:∀ n,(∀ (v:Value) (fs:List Fm),SizeOf.sizeOf fs≤n→FmsOwn P w v fs→FmsAt w v fs)∧(∀ (v:Value) (rs:List Rx),SizeOf.sizeOf rs≤n→RxsOwn P w v rs→RxsAt w v rs):=by
 intro n
 induction n with
 | zero=>exact ⟨fun v fs hn h=>by cases fs<;>simp at hn,fun v rs hn h=>by cases rs<;>simp at hn⟩
 | succ n ih=>
  refine ⟨fun v fs hn h=> ?_,fun v rs hn h=> ?_⟩
  ·cases h with
   | mk ps e hl row pl vars terms sub rgx=>
    have row':=row
    have e':=e
    subst e
    obtain ⟨hL,⟨rfl,hn0⟩ | ⟨g,cap,cur,rfl,hg1,hg2,hg3,hg4,hg5,hg6⟩⟩:=row
    ·rw [List.length_eq_zero_iff.1 hn0]
     exact .nil
    ·have hg:=(Array.getElem?_eq_some_iff.1 hg2).1
     have hp:∀ i,i<(ps.map Prod.fst).length→i<ps.length:=fun i hi=>by simpa using hi
     refine .row (b:=g) (off:=0) (fun i=>if h:i<ps.length then ps[i].2.v else .bool false) (fun i=>if h:i<ps.length then ps[i].2.t else .bool false) (fun i=>if h:i<ps.length then ps[i].2.s else .bool false) (fun i=>if h:i<ps.length then ps[i].2.r else .bool false) hl hg3 hg (fun i hi=> ?_) (fun i hi=> ?_) (fun i hi=> ?_) (fun i hi=> ?_) (fun i hi=> ?_)
     ·have hi':=hp i hi
      have C:∀ j,j<10→w.cell? ⟨g,0+i*10+j,none⟩=(fcs ps[i])[j]?:=fun j hj=>by
       rw [Nat.zero_add,row'.cellAt _ (by simp;omega)]
       exact flatF_get ps i j hi' hj
      rw [List.getElem_map,dif_pos hi',dif_pos hi',dif_pos hi',dif_pos hi']
      exact ⟨(C 0 (by omega)).trans rfl,(C 1 (by omega)).trans rfl,(C 2 (by omega)).trans rfl,(C 3 (by omega)).trans rfl,(C 4 (by omega)).trans rfl,(C 5 (by omega)).trans rfl,(C 6 (by omega)).trans rfl,(C 7 (by omega)).trans rfl,(C 8 (by omega)).trans rfl,(C 9 (by omega)).trans rfl⟩
     ·have hi':=hp i hi
      rw [List.getElem_map,dif_pos hi']
      exact (vars _ (List.getElem_mem hi')).at
     ·have hi':=hp i hi
      rw [List.getElem_map,dif_pos hi']
      exact (terms _ (List.getElem_mem hi')).at
     ·have hi':=hp i hi
      rw [List.getElem_map,dif_pos hi']
      exact ih.1 _ _ (by have:=mem_fst e' (List.getElem_mem hi');have:=Fm.subs_lt ps[i].1;omega) (sub _ (List.getElem_mem hi'))
     ·have hi':=hp i hi
      rw [List.getElem_map,dif_pos hi']
      exact ih.2 _ _ (by have:=mem_fst e' (List.getElem_mem hi');have:=Fm.rgx_lt ps[i].1;omega) (rgx _ (List.getElem_mem hi'))
  ·cases h with
   | mk ps e hl row pl test sub=>
    have row':=row
    have e':=e
    subst e
    obtain ⟨hL,⟨rfl,hn0⟩ | ⟨g,cap,cur,rfl,hg1,hg2,hg3,hg4,hg5,hg6⟩⟩:=row
    ·rw [List.length_eq_zero_iff.1 hn0]
     exact .nil
    ·have hg:=(Array.getElem?_eq_some_iff.1 hg2).1
     have hp:∀ i,i<(ps.map Prod.fst).length→i<ps.length:=fun i hi=>by simpa using hi
     refine .row (b:=g) (off:=0) (fun i=>if h:i<ps.length then ps[i].2.1 else .bool false) (fun i=>if h:i<ps.length then ps[i].2.2 else .bool false) hl hg3 hg (fun i hi=> ?_) (fun i hi=> ?_) (fun i hi=> ?_)
     ·have hi':=hp i hi
      have C:∀ j,j<3→w.cell? ⟨g,0+i*3+j,none⟩=(rcs ps[i])[j]?:=fun j hj=>by
       rw [Nat.zero_add,row'.cellAt _ (by simp;omega)]
       exact flatR_get ps i j hi' hj
      rw [List.getElem_map,dif_pos hi',dif_pos hi']
      exact ⟨(C 0 (by omega)).trans rfl,(C 1 (by omega)).trans rfl,(C 2 (by omega)).trans rfl⟩
     ·have hi':=hp i hi
      rw [List.getElem_map,dif_pos hi']
      exact ih.1 _ _ (by have:=mem_fst e' (List.getElem_mem hi');have:=Rx.test_lt ps[i].1;omega) (test _ (List.getElem_mem hi'))
     ·have hi':=hp i hi
      rw [List.getElem_map,dif_pos hi']
      exact ih.2 _ _ (by have:=mem_fst e' (List.getElem_mem hi');have:=Rx.subs_lt ps[i].1;omega) (sub _ (List.getElem_mem hi'))
theorem FmsOwn.at {P:Nat→Prop} {w:World} {v:Value} {fs:List Fm} (h:FmsOwn P w v fs):FmsAt w v fs:=(both_at _).1 v fs (Nat.le_refl _) h
theorem RxsOwn.at {P:Nat→Prop} {w:World} {v:Value} {rs:List Rx} (h:RxsOwn P w v rs):RxsAt w v rs:=(both_at _).2 v rs (Nat.le_refl _) h
def QOwn (P:Nat→Prop) (w:World) (x:Fm×FQ):Prop:=NmsOwn P w x.2.v x.1.vars∧TmsOwn P w x.2.t x.1.terms∧FmsOwn P w x.2.s x.1.subs∧RxsOwn P w x.2.r x.1.rgx
theorem QOwn.at {P:Nat→Prop} {w:World} {x:Fm×FQ} (h:QOwn P w x):QAt w x:=⟨h.1.at,h.2.1.at,h.2.2.1.at,h.2.2.2.at⟩
theorem QOwn.keep {P:Nat→Prop} {w w':World} {x:Fm×FQ} (h:QOwn P w x) (hk:∀ q,P q→q<w.heap.size→w'.heap[q]? =w.heap[q]?):QOwn P w' x:=⟨h.1.keep hk,h.2.1.keep hk,h.2.2.1.keep hk,h.2.2.2.keep hk⟩
theorem QOwn.mono {P P':Nat→Prop} {w:World} {x:Fm×FQ} (h:QOwn P w x) (hP:∀ q,P q→q<w.heap.size→P' q):QOwn P' w x:=⟨h.1.mono hP,h.2.1.mono hP,h.2.2.1.mono hP,h.2.2.2.mono hP⟩
theorem andT_ok {x:Int×(Int×Int)} {K:Int×Int→Int×(Int×Int)} (h:OkS x.2) (hK:∀ s,OkS s→OkS (K s).2):OkS (andT x K).2:=by
 unfold andT
 split
 ·exact hK _ h
 ·exact h
theorem both_okS:∀ m:Nat,(∀ (fs:List Fm) (dep:Int) (s:Int×Int),SizeOf.sizeOf fs≤m→OkS s→0≤dep→OkS (fruns dep s fs).2)∧(∀ (rs:List Rx) (dep:Int) (s:Int×Int),SizeOf.sizeOf rs≤m→OkS s→0≤dep→OkS (rruns dep s rs).2):=by
 intro m
 induction m with
 | zero=>exact ⟨fun fs dep s hm=>by cases fs<;>simp at hm,fun rs dep s hm=>by cases rs<;>simp at hm⟩
 | succ m ih=>
  constructor
  ·intro fs dep s hm hs hd
   cases fs with
   | nil=>rw [fruns_nil];exact hs
   | cons f l=>
    have s1:SizeOf.sizeOf l≤m:=by simp at hm;omega
    have s2:SizeOf.sizeOf f.subs≤m:=by have:=Fm.subs_lt f;simp at hm;omega
    have s3:SizeOf.sizeOf f.rgx≤m:=by have:=Fm.rgx_lt f;simp at hm;omega
    rw [fruns_cons,frun_eq]
    exact andT_ok (andT_ok (meetS_ok hs hd) fun s h=>andT_ok h fun s h=>andT_ok (truns_ok _ _ _ _ (Nat.le_refl _) h (by omega)) fun s h=>andT_ok (ih.2 _ _ _ s3 h (by omega)) fun s h=>ih.1 _ _ _ s2 h (by omega)) fun s h=>ih.1 _ _ _ s1 h hd
  ·intro rs dep s hm hs hd
   cases rs with
   | nil=>rw [rruns_nil];exact hs
   | cons r l=>
    have s1:SizeOf.sizeOf l≤m:=by simp at hm;omega
    have s2:SizeOf.sizeOf r.subs≤m:=by have:=Rx.subs_lt r;simp at hm;omega
    have s3:SizeOf.sizeOf r.test≤m:=by have:=Rx.test_lt r;simp at hm;omega
    rw [rruns_cons,rrun_eq]
    exact andT_ok (andT_ok (meetS_ok hs hd) fun s h=>andT_ok h fun s h=>andT_ok (ih.1 _ _ _ s3 h (by omega)) fun s h=>ih.2 _ _ _ s2 h (by omega)) fun s h=>ih.2 _ _ _ s1 h hd
theorem frun_okS (f:Fm):OkS (frun 1 (0,0) f).2:=by
 have h:=(both_okS _).1 [f] 1 (0,0) (Nat.le_refl _) ⟨by decide,by decide,by decide,by decide⟩ (by decide)
 rw [fruns_one] at h
 exact h
theorem chk_good {f:Fm} (h:chkF f=0):wfF f∧nodF f≤256:=by
 have h0:(frun 1 (0,0) f).1=0:=by
  unfold chkF at h
  by_cases h1:(frun 1 (0,0) f).1=0
  ·exact h1
  ·rw [if_neg h1] at h;exact absurd h h1
 have h1:=fruns_good (fs:=[f]) (dep:=1) (s:=(0,0)) (by rw [fruns_one];exact pair0 h0)
 rw [wfFs_cons,nodFs_cons,nodFs_nil] at h1
 have h2:OkS (frun 1 (0,0) f).2:=frun_okS f
 have h3:((frun 1 (0,0) f).2).1≤256:=h2.2.1
 refine ⟨h1.1.1, ?_⟩
 have:=h1.2
 simp at this
 omega
section
mutual
def depT:Tm→Nat
 | .mk _ _ _ s=>1+depTs s
def depTs:List Tm→Nat
 | []=>0
 | t::l=>max (depT t) (depTs l)
end
end
section
mutual
def depF:Fm→Nat
 | .mk _ _ _ _ ts _ _ _ ss rs=>1+max (depTs ts) (max (depRs rs) (depFs ss))
def depFs:List Fm→Nat
 | []=>0
 | f::l=>max (depF f) (depFs l)
def depR:Rx→Nat
 | .mk _ t s=>1+max (depFs t) (depRs s)
def depRs:List Rx→Nat
 | []=>0
 | r::l=>max (depR r) (depRs l)
end
end
theorem depT_eq (t:Tm):depT t=1+depTs t.subs:=by cases t;rw [depT];rfl
theorem depTs_nil:depTs []=0:=by rw [depTs]
theorem depTs_cons (t:Tm) (l:List Tm):depTs (t::l)=max (depT t) (depTs l):=by rw [depTs]
theorem depF_eq (f:Fm):depF f=1+max (depTs f.terms) (max (depRs f.rgx) (depFs f.subs)):=by cases f;rw [depF];rfl
theorem depFs_nil:depFs []=0:=by rw [depFs]
theorem depFs_cons (f:Fm) (l:List Fm):depFs (f::l)=max (depF f) (depFs l):=by rw [depFs]
theorem depR_eq (r:Rx):depR r=1+max (depFs r.test) (depRs r.subs):=by cases r;rw [depR];rfl
theorem depRs_nil:depRs []=0:=by rw [depRs]
theorem depRs_cons (r:Rx) (l:List Rx):depRs (r::l)=max (depR r) (depRs l):=by rw [depRs]
theorem meet_ok {dep:Int} {s:Int×Int} (h1:dep≤24) (h2:s.1+1≤256):meetE dep s=0∧meetS dep s=(s.1+1,max s.2 dep):=by
 have e:meetE dep s=0:=by unfold meetE;rw [if_neg (by omega),if_neg (by omega)]
 exact ⟨e,by unfold meetS;rw [if_pos e]⟩
theorem truns_fine:∀ (m:Nat) (ts:List Tm) (dep:Int) (s:Int×Int),SizeOf.sizeOf ts≤m→wfTs ts→s.1+nodTs ts≤256→dep - 1+depTs ts≤24→dep - 1≤s.2→truns dep s ts=(0,(s.1+nodTs ts,max s.2 (dep - 1+depTs ts))):=by
 intro m
 induction m with
 | zero=>intro ts dep s hm;cases ts<;>simp at hm
 | succ m ih=>
  intro ts dep s hm hw hn hd hs
  cases ts with
  | nil=>
   rw [truns_nil,nodTs_nil,depTs_nil]
   congr 1
   exact Prod.ext (by simp) (by show s.2=max s.2 (dep - 1+((0:Nat):Int));omega)
  | cons t l=>
   rw [wfTs_cons,wfT_eq] at hw
   rw [nodTs_cons,nodT_eq] at hn ⊢
   rw [depTs_cons,depT_eq] at hd ⊢
   have s1:SizeOf.sizeOf l≤m:=by simp at hm;omega
   have s2:SizeOf.sizeOf t.subs≤m:=by have:=Tm.subs_lt t;simp at hm;omega
   obtain ⟨m1,m2⟩:=meet_ok (dep:=dep) (s:=s) (by omega) (by omega)
   have a:=ih t.subs (dep+1) (s.1+1,max s.2 dep) s2 hw.1.2 (by show s.1+1+_≤_;omega) (by omega) (by show dep+1 - 1≤max s.2 dep;omega)
   have e1:trun dep s t=(0,(s.1+1+nodTs t.subs,max (max s.2 dep) (dep+1 - 1+depTs t.subs))):=by
    rw [trun_eq,if_pos m1,if_pos hw.1.1,m2]
    exact a
   rw [truns_cons,e1,if_pos rfl]
   have b:=ih l dep (s.1+1+nodTs t.subs,max (max s.2 dep) (dep+1 - 1+depTs t.subs)) s1 hw.2 (by show s.1+1+_+_≤_;omega) (by omega) (by show dep - 1≤max (max s.2 dep) _;omega)
   rw [b]
   congr 1
   exact Prod.ext (by show s.1+1+_+_=_;omega) (by show max (max (max s.2 dep) _) _=_;omega)
theorem both_fine:∀ m:Nat,(∀ (fs:List Fm) (dep:Int) (s:Int×Int),SizeOf.sizeOf fs≤m→wfFs fs→s.1+nodFs fs≤256→dep - 1+depFs fs≤24→dep - 1≤s.2→fruns dep s fs=(0,(s.1+nodFs fs,max s.2 (dep - 1+depFs fs))))∧(∀ (rs:List Rx) (dep:Int) (s:Int×Int),SizeOf.sizeOf rs≤m→wfRs rs→s.1+nodRs rs≤256→dep - 1+depRs rs≤24→dep - 1≤s.2→rruns dep s rs=(0,(s.1+nodRs rs,max s.2 (dep - 1+depRs rs)))):=by
 intro m
 induction m with
 | zero=>exact ⟨fun fs dep s hm=>by cases fs<;>simp at hm,fun rs dep s hm=>by cases rs<;>simp at hm⟩
 | succ m ih=>
  constructor
  ·intro fs dep s hm hw hn hd hs
   cases fs with
   | nil=>
    rw [fruns_nil,nodFs_nil,depFs_nil]
    congr 1
    exact Prod.ext (by simp) (by show s.2=max s.2 (dep - 1+((0:Nat):Int));omega)
   | cons f l=>
    rw [wfFs_cons,wfF_eq] at hw
    rw [nodFs_cons,nodF_eq] at hn ⊢
    rw [depFs_cons,depF_eq] at hd ⊢
    obtain ⟨⟨w1,w2,w3,w4⟩,w5⟩:=hw
    have s1:SizeOf.sizeOf l≤m:=by simp at hm;omega
    have s2:SizeOf.sizeOf f.subs≤m:=by have:=Fm.subs_lt f;simp at hm;omega
    have s3:SizeOf.sizeOf f.rgx≤m:=by have:=Fm.rgx_lt f;simp at hm;omega
    obtain ⟨m1,m2⟩:=meet_ok (dep:=dep) (s:=s) (by omega) (by omega)
    rw [fruns_cons,frun_eq,m1,m2,andT_eq,w1,andT_eq]
    rw [truns_fine _ f.terms (dep+1) (s.1+1,max s.2 dep) (Nat.le_refl _) w2 (by show s.1+1+_≤_;omega) (by omega) (by show dep+1 - 1≤max s.2 dep;omega),andT_eq]
    rw [ih.2 f.rgx (dep+1) _ s3 w3 (by show s.1+1+_+_≤_;omega) (by omega) (by show dep+1 - 1≤max (max s.2 dep) _;omega),andT_eq]
    rw [ih.1 f.subs (dep+1) _ s2 w4 (by show s.1+1+_+_+_≤_;omega) (by omega) (by show dep+1 - 1≤max (max (max s.2 dep) _) _;omega),andT_eq]
    rw [ih.1 l dep _ s1 w5 (by show s.1+1+_+_+_+_≤_;omega) (by omega) (by show dep - 1≤max (max (max (max s.2 dep) _) _) _;omega)]
    congr 1
    exact Prod.ext (by show s.1+1+_+_+_+_=_;omega) (by show max (max (max (max (max s.2 dep) _) _) _) _=_;omega)
  ·intro rs dep s hm hw hn hd hs
   cases rs with
   | nil=>
    rw [rruns_nil,nodRs_nil,depRs_nil]
    congr 1
    exact Prod.ext (by simp) (by show s.2=max s.2 (dep - 1+((0:Nat):Int));omega)
   | cons r l=>
    rw [wfRs_cons,wfR_eq] at hw
    rw [nodRs_cons,nodR_eq] at hn ⊢
    rw [depRs_cons,depR_eq] at hd ⊢
    obtain ⟨⟨w1,w2,w3⟩,w5⟩:=hw
    have s1:SizeOf.sizeOf l≤m:=by simp at hm;omega
    have s2:SizeOf.sizeOf r.subs≤m:=by have:=Rx.subs_lt r;simp at hm;omega
    have s3:SizeOf.sizeOf r.test≤m:=by have:=Rx.test_lt r;simp at hm;omega
    obtain ⟨m1,m2⟩:=meet_ok (dep:=dep) (s:=s) (by omega) (by omega)
    rw [rruns_cons,rrun_eq,m1,m2,andT_eq,w1,andT_eq]
    rw [ih.1 r.test (dep+1) (s.1+1,max s.2 dep) s3 w2 (by show s.1+1+_≤_;omega) (by omega) (by show dep+1 - 1≤max s.2 dep;omega),andT_eq]
    rw [ih.2 r.subs (dep+1) _ s2 w3 (by show s.1+1+_+_≤_;omega) (by omega) (by show dep+1 - 1≤max (max s.2 dep) _;omega),andT_eq]
    rw [ih.2 l dep _ s1 w5 (by show s.1+1+_+_+_≤_;omega) (by omega) (by show dep - 1≤max (max (max s.2 dep) _) _;omega)]
    congr 1
    exact Prod.ext (by show s.1+1+_+_+_=_;omega) (by show max (max (max (max s.2 dep) _) _) _=_;omega)
theorem truns_deep:∀ (m:Nat) (ts:List Tm) (dep:Int) (s q:Int×Int),SizeOf.sizeOf ts≤m→truns dep s ts=(0,q)→depTs ts=0∨dep - 1+depTs ts≤24:=by
 intro m
 induction m with
 | zero=>intro ts dep s q hm;cases ts<;>simp at hm
 | succ m ih=>
  intro ts dep s q hm h
  cases ts with
  | nil=>exact Or.inl depTs_nil
  | cons t l=>
   rw [truns_cons] at h
   rw [depTs_cons,depT_eq]
   have s1:SizeOf.sizeOf l≤m:=by simp at hm;omega
   have s2:SizeOf.sizeOf t.subs≤m:=by have:=Tm.subs_lt t;simp at hm;omega
   by_cases h1:(trun dep s t).1=0
   ·rw [if_pos h1] at h
    rw [trun_eq] at h h1
    by_cases h2:meetE dep s=0
    ·rw [if_pos h2] at h h1
     have hd:=meetE_le h2
     by_cases h3:tmE t=0
     ·rw [if_pos h3] at h h1
      have a:=ih t.subs (dep+1) (meetS dep s) (truns (dep+1) (meetS dep s) t.subs).2 s2 (by rw [← h1])
      have b:=ih l dep _ q s1 h
      right
      omega
     ·rw [if_neg h3] at h1
      exact absurd h1 h3
    ·rw [if_neg h2] at h1
     exact absurd h1 h2
   ·rw [if_neg h1] at h
    rw [h] at h1
    exact absurd rfl h1
theorem both_deep:∀ m:Nat,(∀ (fs:List Fm) (dep:Int) (s q:Int×Int),SizeOf.sizeOf fs≤m→fruns dep s fs=(0,q)→depFs fs=0∨dep - 1+depFs fs≤24)∧(∀ (rs:List Rx) (dep:Int) (s q:Int×Int),SizeOf.sizeOf rs≤m→rruns dep s rs=(0,q)→depRs rs=0∨dep - 1+depRs rs≤24):=by
 intro m
 induction m with
 | zero=>exact ⟨fun fs dep s q hm=>by cases fs<;>simp at hm,fun rs dep s q hm=>by cases rs<;>simp at hm⟩
 | succ m ih=>
  constructor
  ·intro fs dep s q hm h
   cases fs with
   | nil=>exact Or.inl depFs_nil
   | cons f l=>
    rw [fruns_cons] at h
    rw [depFs_cons,depF_eq]
    obtain ⟨h1,h2⟩:=andT_zero h
    have s1:SizeOf.sizeOf l≤m:=by simp at hm;omega
    have s2:SizeOf.sizeOf f.subs≤m:=by have:=Fm.subs_lt f;simp at hm;omega
    have s3:SizeOf.sizeOf f.rgx≤m:=by have:=Fm.rgx_lt f;simp at hm;omega
    have b:=ih.1 l dep _ q s1 h2
    have h3:=pair0 h1
    generalize (frun dep s f).2=q2 at*
    rw [frun_eq] at h3
    obtain ⟨c1,h3⟩:=andT_zero h3
    obtain ⟨c2,h3⟩:=andT_zero h3
    obtain ⟨c3,h3⟩:=andT_zero h3
    obtain ⟨c4,h3⟩:=andT_zero h3
    have hd:dep≤24:=meetE_le c1
    have d1:=truns_deep _ f.terms _ _ _ (Nat.le_refl _) (pair0 c3)
    have d2:=ih.2 f.rgx _ _ _ s3 (pair0 c4)
    have d3:=ih.1 f.subs _ _ _ s2 h3
    right
    omega
  ·intro rs dep s q hm h
   cases rs with
   | nil=>exact Or.inl depRs_nil
   | cons r l=>
    rw [rruns_cons] at h
    rw [depRs_cons,depR_eq]
    obtain ⟨h1,h2⟩:=andT_zero h
    have s1:SizeOf.sizeOf l≤m:=by simp at hm;omega
    have s2:SizeOf.sizeOf r.subs≤m:=by have:=Rx.subs_lt r;simp at hm;omega
    have s3:SizeOf.sizeOf r.test≤m:=by have:=Rx.test_lt r;simp at hm;omega
    have b:=ih.2 l dep _ q s1 h2
    have h3:=pair0 h1
    generalize (rrun dep s r).2=q2 at*
    rw [rrun_eq] at h3
    obtain ⟨c1,h3⟩:=andT_zero h3
    obtain ⟨c2,h3⟩:=andT_zero h3
    obtain ⟨c4,h3⟩:=andT_zero h3
    have hd:dep≤24:=meetE_le c1
    have d2:=ih.1 r.test _ _ _ s3 (pair0 c4)
    have d3:=ih.2 r.subs _ _ _ s2 h3
    right
    omega
theorem chk_iff (f:Fm):chkF f=0↔wfF f∧nodF f≤256∧depF f≤24∧(fre f).2≤8:=by
 constructor
 ·intro h
  have g:=chk_good h
  have h0:(frun 1 (0,0) f).1=0:=by
   unfold chkF at h
   by_cases h1:(frun 1 (0,0) f).1=0
   ·exact h1
   ·rw [if_neg h1] at h;exact absurd h h1
  have d:=(both_deep _).1 [f] 1 (0,0) _ (Nat.le_refl _) (by rw [fruns_one];exact pair0 h0)
  rw [depFs_cons,depFs_nil] at d
  unfold chkF at h
  rw [if_pos h0] at h
  have e:¬ 8<(fre f).2:=fun e=>by rw [if_pos e] at h;simp at h
  exact ⟨g.1,g.2,by omega,by omega⟩
 ·rintro ⟨h1,h2,h3,h4⟩
  have a:=(both_fine _).1 [f] 1 (0,0) (Nat.le_refl _) (by rw [wfFs_cons,wfFs_nil];exact ⟨h1,trivial⟩) (by rw [nodFs_cons,nodFs_nil];show (0:Int)+_≤_;omega) (by rw [depFs_cons,depFs_nil];omega) (by decide)
  rw [fruns_one] at a
  unfold chkF
  rw [a,if_pos rfl,if_neg (by omega)]
theorem nameB_size {s:ByteArray} (h:nameB s=true):s.size≤16:=by
 unfold nameB nameL at h
 simp only [Bool.and_eq_true,decide_eq_true_eq] at h
 have:s.data.toList.length=s.size:=by simp
 omega
theorem namesB_all:∀ {l:List ByteArray},namesB l=true→∀ s∈l,nameB s=true
 | [],_,s,hs=>by cases hs
 | x::l,h,s,hs=>by
  rw [namesB,Bool.and_eq_true] at h
  rcases List.mem_cons.1 hs with rfl | hs
  ·exact h.1
  ·exact namesB_all h.2 s hs
theorem nodTs_len (a:List Tm):a.length≤nodTs a:=by
 induction a with
 | nil=>simp
 | cons x l ih=>rw [nodTs_cons,nodT_eq,List.length_cons];omega
theorem nodRs_len (a:List Rx):a.length≤nodRs a:=by
 induction a with
 | nil=>simp
 | cons x l ih=>rw [nodRs_cons,nodR_eq,List.length_cons];omega
section
mutual
def ftT:Tm→Prop
 | .mk _ _ v subs=>v.Fits∧ftTs subs
def ftTs:List Tm→Prop
 | []=>True
 | t::l=>ftT t∧ftTs l
end
end
section
mutual
def ftF:Fm→Prop
 | .mk _ _ _ _ terms _ _ _ subs rgx=>ftTs terms∧ftRs rgx∧ftFs subs
def ftFs:List Fm→Prop
 | []=>True
 | f::l=>ftF f∧ftFs l
def ftR:Rx→Prop
 | .mk _ test subs=>ftFs test∧ftRs subs
def ftRs:List Rx→Prop
 | []=>True
 | r::l=>ftR r∧ftRs l
end
end
theorem ftT_eq (t:Tm):ftT t=(t.v.Fits∧ftTs t.subs):=by cases t;rw [ftT];rfl
theorem ftTs_cons (t:Tm) (l:List Tm):ftTs (t::l)=(ftT t∧ftTs l):=by rw [ftTs]
theorem ftF_eq (f:Fm):ftF f=(ftTs f.terms∧ftRs f.rgx∧ftFs f.subs):=by cases f;rw [ftF];rfl
theorem ftFs_cons (f:Fm) (l:List Fm):ftFs (f::l)=(ftF f∧ftFs l):=by rw [ftFs]
theorem ftR_eq (r:Rx):ftR r=(ftFs r.test∧ftRs r.subs):=by cases r;rw [ftR];rfl
theorem ftRs_cons (r:Rx) (l:List Rx):ftRs (r::l)=(ftR r∧ftRs l):=by rw [ftRs]
theorem itvU_facts {lo hi:Int} {o:Bool} (h:itvU lo hi o=true):0≤lo∧lo≤1099511627776∧(o=true→hi=0)∧(o=false→lo≤hi∧hi≤1099511627776):=by
 unfold itvU at h
 by_cases h1:lo<0∨1099511627776<lo
 ·rw [if_pos h1] at h;cases h
 rw [if_neg h1] at h
 cases o with
 | true=>exact ⟨by omega,by omega,fun _=>(by simpa using h),fun e=>(by cases e)⟩
 | false=>exact ⟨by omega,by omega,fun e=>(by cases e),fun _=>by simpa using h⟩
theorem data_nil {s:ByteArray} (h:(s.toList==[])=true):s=⟨#[]⟩:=by
 have h1:s.toList=[]:=by simpa using h
 rw [toList_data] at h1
 cases s with
 | mk d=>cases d with
  | mk l=>simp at h1;rw [h1]
theorem sameB_zero {v:Val} (h:sameB v.k v.n v.d v.s 0 0 0 ⟨#[]⟩=true):v=zeroV:=by
 unfold sameB at h
 simp only [Bool.and_eq_true,beq_iff_eq] at h
 obtain ⟨h1,h2,h3,h4⟩:=h
 have h5:v.s=⟨#[]⟩:=data_nil (by first | simpa using h4 | (rw [h4];rfl))
 cases v with
 | mk k n d s=>
  dsimp only at h1 h2 h3 h5
  rw [h1,h2,h3,h5]
  rfl
theorem tm_eta (t:Tm):t=.mk t.k t.nm t.v t.subs:=by cases t;rfl
theorem tm_facts {t:Tm} (h:tmE t=0):(t.k=1∧nameB t.nm=true∧t=tmV t.nm)∨(t.k=2∧t.v.may=0∧t=tmC t.v)∨((t.k=3∨t.k=4∨t.k=5)∧t.subs.length=2∧t=tmO t.k t.subs):=by
 unfold tmE at h
 by_cases h1:t.k<1∨5<t.k
 ·rw [if_pos h1] at h;simp at h
 rw [if_neg h1] at h
 by_cases h2:(if t.k=1 then nameB t.nm else t.nm.toList==[])=false∨t.subs.length≠(if 3≤t.k then 2 else 0)
 ·rw [if_pos h2] at h;simp at h
 rw [if_neg h2] at h
 have h3:(if t.k=1 then nameB t.nm else t.nm.toList==[])=true:=by
  cases h4:(if t.k=1 then nameB t.nm else t.nm.toList==[]) with
  | false=>exact absurd (Or.inl h4) h2
  | true=>rfl
 have h4:t.subs.length=(if 3≤t.k then 2 else 0):=Classical.byContradiction fun e=>h2 (Or.inr e)
 have hz:¬ t.k=2→t.v=zeroV:=fun e2=>by
  rw [if_neg e2] at h
  by_cases hb:sameB t.v.k t.v.n t.v.d t.v.s 0 0 0 ⟨#[]⟩=true
  ·exact sameB_zero hb
  ·rw [if_neg hb] at h;simp at h
 by_cases e1:t.k=1
 ·rw [if_neg (by omega)] at h4
  rw [if_pos e1] at h3
  have hs:t.subs=[]:=List.length_eq_zero_iff.1 h4
  have hv:=hz (by omega)
  refine Or.inl ⟨e1,h3,(tm_eta t).trans ?_⟩
  rw [e1,hs,hv]
  rfl
 rw [if_neg e1] at h3
 have hn:=data_nil h3
 by_cases e2:t.k=2
 ·rw [if_pos e2] at h
  rw [if_neg (by omega)] at h4
  have hs:t.subs=[]:=List.length_eq_zero_iff.1 h4
  refine Or.inr (Or.inl ⟨e2,h,(tm_eta t).trans ?_⟩)
  rw [e2,hs,hn]
  rfl
 rw [if_pos (by omega)] at h4
 have hv:=hz e2
 refine Or.inr (Or.inr ⟨by omega,h4,(tm_eta t).trans ?_⟩)
 rw [hn,hv]
 rfl
theorem kinds22 {k:Int} (h1:3≤k) (h2:k≤22):k=3∨k=4∨k=5∨k=6∨k=7∨k=8∨k=9∨k=10∨k=11∨k=12∨k=13∨k=14∨k=15∨k=16∨k=17∨k=18∨k=19∨k=20∨k=21∨k=22:=by omega
theorem shp_frm {k:Int} (h1:3≤k) (h2:k≤22):(shp k).named=(frm k).nm∧(shp k).reck=(frm k).op∧(shp k).timed=(frm k).iv∧((shp k).listed=false→(frm k).vm=0)∧((shp k).reck=true→(shp k).listed=true∧(frm k).vl=1)∧(k≠3→(frm k).tl=(shp k).terms∧(frm k).tm=(shp k).terms)∧((frm k).rl=(shp k).rgx∧(frm k).rm=(shp k).rgx)∧((shp k).more=false→(frm k).sl=(shp k).subs∧(frm k).sm=(shp k).subs)∧((shp k).more=true→(frm k).sl=1∧(shp k).subs=1):=by
 rcases kinds22 h1 h2 with h | h | h | h | h | h | h | h | h | h | h | h | h | h | h | h | h | h | h | h<;>subst h<;>decide
theorem fm_parts {f:Fm} (h:fmE f=0):namesB f.vars=true∧(if (frm f.k).nm=true then nameB f.nm else f.nm.toList==[])=true∧opB f.op (frm f.k).op=true∧itvB f.lo f.hi f.opn (frm f.k).iv=true:=by
 unfold fmE at h
 by_cases h1:f.k<1∨22<f.k
 ·rw [if_pos h1] at h;simp at h
 rw [if_neg h1] at h
 by_cases h2:manyB f.k f.vars.length f.terms.length=true
 ·rw [if_pos h2] at h;simp at h
 rw [if_neg h2] at h
 by_cases h3:formedM (frm f.k) f.op f.lo f.hi f.nm f.opn f.vars f.terms.length f.subs.length f.rgx.length=false
 ·rw [if_pos h3] at h;simp at h
 have h4:formedM (frm f.k) f.op f.lo f.hi f.nm f.opn f.vars f.terms.length f.subs.length f.rgx.length=true:=by
  cases h5:formedM (frm f.k) f.op f.lo f.hi f.nm f.opn f.vars f.terms.length f.subs.length f.rgx.length with
  | false=>exact absurd h5 h3
  | true=>rfl
 unfold formedM at h4
 rw [Bool.and_eq_true,Bool.and_eq_true,Bool.and_eq_true,Bool.and_eq_true,Bool.and_eq_true,Bool.and_eq_true,Bool.and_eq_true] at h4
 exact ⟨h4.2.2.2.2.1,h4.2.2.2.2.2.1,h4.2.2.2.2.2.2.1,h4.2.2.2.2.2.2.2⟩
theorem jn_le (l:List (List UInt8)):(jn l).length≤(spd l).length:=by
 cases l with
 | nil=>simp [jn]
 | cons x l=>rw [jn_cons,spd];simp only [List.length_cons,List.length_append];omega
theorem brkt_len (l:List (List UInt8)):(brkt l).length≤(spd l).length+2:=by
 unfold brkt
 have:=jn_le l
 simp
 omega
theorem spd_nil_len:(spd []).length=0:=rfl
theorem spd_cons_len (x:List UInt8) (l:List (List UInt8)):(spd (x::l)).length=1+x.length+(spd l).length:=by
 rw [spd];simp;omega
theorem val_len {v:Val} (hm:v.may=0) (f:v.Fits):(vtext v.k v.n v.d v.s).length≤300:=by
 obtain ⟨f1,f2,f3,f4⟩:=f
 have l1:=Lib.itoa_length_le v.n f1 f2
 have l2:=Lib.itoa_length_le v.d f3 f4
 unfold vtext
 split
 ·omega
 split
 ·simp;omega
 ·have hs:=chk_size (show chk v.k v.n v.d v.s=0 from hm)
  have h1:=inside_len v.s.data.toList
  have e:v.s.data.toList.length=v.s.size:=by simp
  have e2:quoted v.s.data.toList=34::(inside v.s.data.toList++[34]):=rfl
  rw [e2]
  simp only [List.length_cons,List.length_append,List.length_nil]
  omega
theorem name_len {x:ByteArray} (h:nameB x=true):x.data.toList.length≤16:=by
 have:=nameB_size h
 have e:x.data.toList.length=x.size:=by simp
 omega
theorem tms_len:∀ (m:Nat) (ts:List Tm),SizeOf.sizeOf ts≤m→wfTs ts→ftTs ts→(spd (txTs ts)).length≤1000*nodTs ts∧∀ t∈ts,(txT t).length+1≤1000*nodT t:=by
 intro m
 induction m with
 | zero=>intro ts hn;cases ts<;>simp at hn
 | succ m ih=>
  intro ts hn hw hf
  cases ts with
  | nil=>rw [txTs,nodTs_nil];exact ⟨by simp [spd],fun t h=>by cases h⟩
  | cons t l=>
   rw [wfTs_cons,wfT_eq] at hw
   rw [ftTs_cons,ftT_eq] at hf
   have h0:=Tm.subs_lt t
   simp at hn
   have i1:=ih l (by omega) hw.2 hf.2
   have i2:=ih t.subs (by omega) hw.1.2 hf.1.2
   have ht:(txT t).length+1≤1000*nodT t:=by
    rw [txT_eq,nodT_eq]
    rcases tm_facts hw.1.1 with ⟨h1,h2, -⟩ | ⟨h1,h2, -⟩ | ⟨h1,h2, -⟩
    ·rw [if_pos h1];have:=name_len h2;omega
    ·rw [if_neg (by omega),if_pos h1];have:=val_len h2 hf.1.1;omega
    ·rw [if_neg (by omega),if_neg (by omega)]
     have:=brkt_len (hdT t.k::txTs t.subs)
     rw [spd_cons_len] at this
     have hk:(hdT t.k).length=1:=by rcases h1 with h | h | h<;>rw [h]<;>rfl
     omega
   rw [txTs,nodTs_cons,spd_cons_len]
   refine ⟨by omega,fun a ha=> ?_⟩
   rcases List.mem_cons.1 ha with rfl | ha
   ·exact ht
   ·exact i1.2 a ha
theorem spd_app_len (a b:List (List UInt8)):(spd (a++b)).length=(spd a).length+(spd b).length:=by rw [spd_app,List.length_append]
theorem wds_len:∀ {l:List ByteArray},(∀ s∈l,nameB s=true)→(spd (l.map fun v=>v.data.toList)).length≤17*l.length
 | [],_=>by simp [spd]
 | x::l,h=>by
  have h1:=wds_len (l:=l) (fun s hs=>h s (by simp [hs]))
  have h2:=name_len (h x (by simp))
  rw [List.map_cons,spd_cons_len]
  simp only [List.length_cons]
  omega
theorem hdF_len {k:Int} (h1:4≤k) (h2:k≤22):(hdF k).length≤7:=by
 rcases kinds22 (by omega) h2 with h | h | h | h | h | h | h | h | h | h | h | h | h | h | h | h | h | h | h | h<;>first | omega | (subst h;decide)
theorem hdO_len (k:Int):(hdO k).length≤3:=by
 unfold hdO
 repeat' split
 all_goals simp
theorem hdR_len (k:Int):(hdR k).length≤4:=by
 unfold hdR
 repeat' split
 all_goals simp
theorem ivT_len {lo hi:Int} {o:Bool} (h:itvU lo hi o=true):(ivT lo hi o).length≤50:=by
 obtain ⟨h0,h1,h2,h3⟩:=itvU_facts h
 have l1:=Lib.itoa_length_le lo (by omega) (by omega)
 unfold ivT
 cases o with
 | true=>simp;omega
 | false=>
  have:=h3 rfl
  have l2:=Lib.itoa_length_le hi (by omega) (by omega)
  simp
  omega
theorem fmH_len {f:Fm} (h:fmE f=0) (h3:3≤f.k):(spd (fmH f)).length≤400:=by
 obtain ⟨⟨-,h22⟩,hv, -⟩:=fm_forms h
 have hv8:=fm_vars h
 obtain ⟨p1,p2,p3,p4⟩:=fm_parts h
 obtain ⟨s1,s2,s3,s4,s5, -⟩:=shp_frm h3 h22
 have hall:=namesB_all p1
 have e:fmH f=(if f.k=3 then [] else [hdF f.k])++((if (shp f.k).named then [f.nm.data.toList] else [])++((if (shp f.k).reck then [hdO f.op,(f.vars.headD ⟨#[]⟩).data.toList] else [])++((if (shp f.k).listed then [brkt ((if (shp f.k).reck then f.vars.drop 1 else f.vars).map fun v=>v.data.toList)] else [])++(if (shp f.k).timed then [ivT f.lo f.hi f.opn] else [])))):=by unfold fmH;simp only [List.append_assoc]
 rw [e,spd_app_len,spd_app_len,spd_app_len,spd_app_len]
 have a1:(spd (if f.k=3 then [] else [hdF f.k])).length≤8:=by
  by_cases e3:f.k=3
  ·rw [if_pos e3];simp [spd]
  ·rw [if_neg e3,spd_cons_len];have:=hdF_len (k:=f.k) (by omega) h22;rw [spd_nil_len];omega
 have a2:(spd (if (shp f.k).named then [f.nm.data.toList] else [])).length≤17:=by
  rw [s1]
  cases hb:(frm f.k).nm with
  | true=>rw [hb,if_pos rfl] at p2;rw [if_pos rfl,spd_cons_len];have:=name_len p2;rw [spd_nil_len];omega
  | false=>rw [if_neg (by simp)];simp [spd]
 have a3:(spd (if (shp f.k).reck then [hdO f.op,(f.vars.headD ⟨#[]⟩).data.toList] else [])).length≤40:=by
  cases hb:(shp f.k).reck with
  | true=>
   rw [if_pos rfl,spd_cons_len,spd_cons_len]
   have:=hdO_len f.op
   have hn:(f.vars.headD ⟨#[]⟩).data.toList.length≤16:=by
    cases hvv:f.vars with
    | nil=>simp
    | cons x l=>exact name_len (hall x (by rw [hvv];simp))
   rw [spd_nil_len]
   omega
  | false=>rw [if_neg (by simp)];simp [spd]
 have a4:(spd (if (shp f.k).listed then [brkt ((if (shp f.k).reck then f.vars.drop 1 else f.vars).map fun v=>v.data.toList)] else [])).length≤200:=by
  cases hb:(shp f.k).listed with
  | true=>
   rw [if_pos rfl,spd_cons_len]
   have hL:(spd ((if (shp f.k).reck then f.vars.drop 1 else f.vars).map fun v=>v.data.toList)).length≤17*8:=by
    cases hr:(shp f.k).reck with
    | true=>
     rw [if_pos rfl]
     have:=wds_len (l:=f.vars.drop 1) (fun s hs=>hall s (List.mem_of_mem_drop hs))
     have:(f.vars.drop 1).length≤8:=by simp;omega
     omega
    | false=>
     rw [if_neg (by simp)]
     have:=wds_len (l:=f.vars) hall
     omega
   have:=brkt_len ((if (shp f.k).reck then f.vars.drop 1 else f.vars).map fun v=>v.data.toList)
   rw [spd_nil_len]
   omega
  | false=>rw [if_neg (by simp)];simp [spd]
 have a5:(spd (if (shp f.k).timed then [ivT f.lo f.hi f.opn] else [])).length≤60:=by
  cases hb:(shp f.k).timed with
  | true=>
   rw [← s3,hb] at p4
   have hi:itvU f.lo f.hi f.opn=true:=by unfold itvB at p4;rwa [if_pos rfl] at p4
   rw [if_pos rfl,spd_cons_len]
   have:=ivT_len hi
   rw [spd_nil_len]
   omega
  | false=>rw [if_neg (by simp)];simp [spd]
 omega
theorem both_len:∀ m:Nat,(∀ fs:List Fm,SizeOf.sizeOf fs≤m→wfFs fs→ftFs fs→(spd (txFs fs)).length≤1000*nodFs fs∧∀ f∈fs,(txF f).length+1≤1000*nodF f)∧(∀ rs:List Rx,SizeOf.sizeOf rs≤m→wfRs rs→ftRs rs→(spd (txRs rs)).length≤1000*nodRs rs∧∀ r∈rs,(txR r).length+1≤1000*nodR r):=by
 intro m
 induction m with
 | zero=>exact ⟨fun fs hn=>by cases fs<;>simp at hn,fun rs hn=>by cases rs<;>simp at hn⟩
 | succ m ih=>
  constructor
  ·intro fs hn hw hf
   cases fs with
   | nil=>rw [txFs,nodFs_nil];exact ⟨by simp [spd],fun t h=>by cases h⟩
   | cons f l=>
    rw [wfFs_cons,wfF_eq] at hw
    rw [ftFs_cons,ftF_eq] at hf
    have h0:=Fm.subs_lt f
    have h1:=Fm.rgx_lt f
    simp at hn
    have i1:=ih.1 l (by omega) hw.2 hf.2
    have i2:=ih.1 f.subs (by omega) hw.1.2.2.2 hf.1.2.2
    have i3:=ih.2 f.rgx (by omega) hw.1.2.2.1 hf.1.2.1
    have i4:=tms_len _ f.terms (Nat.le_refl _) hw.1.2.1 hf.1.1
    have ht:(txF f).length+1≤1000*nodF f:=by
     rw [txF_eq,nodF_eq]
     obtain ⟨⟨k1,k2⟩, -⟩:=fm_forms hw.1.1
     by_cases e1:f.k=1
     ·rw [if_pos e1];simp;omega
     rw [if_neg e1]
     by_cases e2:f.k=2
     ·rw [if_pos e2];simp;omega
     rw [if_neg e2]
     have b:=brkt_len (fmH f++txTs f.terms++txRs f.rgx++txFs f.subs)
     rw [spd_app_len,spd_app_len,spd_app_len] at b
     have:=fmH_len hw.1.1 (by omega)
     omega
    rw [txFs,nodFs_cons,spd_cons_len]
    refine ⟨by omega,fun a ha=> ?_⟩
    rcases List.mem_cons.1 ha with rfl | ha
    ·exact ht
    ·exact i1.2 a ha
  ·intro rs hn hw hf
   cases rs with
   | nil=>rw [txRs,nodRs_nil];exact ⟨by simp [spd],fun t h=>by cases h⟩
   | cons r l=>
    rw [wfRs_cons,wfR_eq] at hw
    rw [ftRs_cons,ftR_eq] at hf
    have h0:=Rx.subs_lt r
    have h1:=Rx.test_lt r
    simp at hn
    have i1:=ih.2 l (by omega) hw.2 hf.2
    have i2:=ih.2 r.subs (by omega) hw.1.2.2 hf.1.2
    have i3:=ih.1 r.test (by omega) hw.1.2.1 hf.1.1
    have ht:(txR r).length+1≤1000*nodR r:=by
     rw [txR_eq,nodR_eq]
     by_cases e1:r.k=1
     ·rw [if_pos e1];have:=hdR_len 1;omega
     rw [if_neg e1]
     have b:=brkt_len (hdR r.k::(txFs r.test++txRs r.subs))
     rw [spd_cons_len,spd_app_len] at b
     have:=hdR_len r.k
     omega
    rw [txRs,nodRs_cons,spd_cons_len]
    refine ⟨by omega,fun a ha=> ?_⟩
    rcases List.mem_cons.1 ha with rfl | ha
    ·exact ht
    ·exact i1.2 a ha
theorem wfTs_mem:∀ {l:List Tm},wfTs l→∀ t∈l,wfT t
 | [],_,t,h=>by cases h
 | x::l,hw,t,h=>by
  rw [wfTs_cons] at hw
  rcases List.mem_cons.1 h with rfl | h
  ·exact hw.1
  ·exact wfTs_mem hw.2 t h
theorem wfFs_mem:∀ {l:List Fm},wfFs l→∀ t∈l,wfF t
 | [],_,t,h=>by cases h
 | x::l,hw,t,h=>by
  rw [wfFs_cons] at hw
  rcases List.mem_cons.1 h with rfl | h
  ·exact hw.1
  ·exact wfFs_mem hw.2 t h
theorem wfRs_mem:∀ {l:List Rx},wfRs l→∀ t∈l,wfR t
 | [],_,t,h=>by cases h
 | x::l,hw,t,h=>by
  rw [wfRs_cons] at hw
  rcases List.mem_cons.1 h with rfl | h
  ·exact hw.1
  ·exact wfRs_mem hw.2 t h
theorem cell_sameQ {w w':World} {b:Nat} (h:w'.heap[b]? =w.heap[b]?) (o:Nat):w'.cell? ⟨b,o,none⟩=w.cell? ⟨b,o,none⟩:=by
 unfold World.cell?
 rw [h]
def endT (sz:Nat):Tok Val:=⟨0,sz,[],zeroV⟩
def tkH (sz:Nat):List (Tok Val)→Tok Val
 | []=>endT sz
 | t::_=>t
def tkV (t:Tok Val):Value:=.agg #[.int .i64 t.k,.int .i64 t.at_,.string (txB t),.int .i64 t.v.k,.int .i64 t.v.n,.int .i64 t.v.d,.string t.v.s]
def TkC (w:World) (b o:Nat) (t:Tok Val):Prop:=w.cell? ⟨b,o,none⟩=some (.int .i64 t.k)∧w.cell? ⟨b,o+1,none⟩=some (.int .i64 t.at_)∧w.cell? ⟨b,o+2,none⟩=some (.string (txB t))∧w.cell? ⟨b,o+3,none⟩=some (.int .i64 t.v.k)∧w.cell? ⟨b,o+4,none⟩=some (.int .i64 t.v.n)∧w.cell? ⟨b,o+5,none⟩=some (.int .i64 t.v.d)∧w.cell? ⟨b,o+6,none⟩=some (.string t.v.s)
theorem TkC.fr {P:Nat→Prop} {w w':World} {b o:Nat} {t:Tok Val} (h:TkC w b o t) (hf:Fr P w w') (hb:b<w.heap.size) (hp:¬ P b):TkC w' b o t:=by
 have e:=hf.block b hb hp
 have c:∀ j,w'.cell? ⟨b,j,none⟩=w.cell? ⟨b,j,none⟩:=fun j=>cell_sameQ e j
 obtain ⟨h0,h1,h2,h3,h4,h5,h6⟩:=h
 exact ⟨(c _).trans h0,(c _).trans h1,(c _).trans h2,(c _).trans h3,(c _).trans h4,(c _).trans h5,(c _).trans h6⟩
def TkOk (t:Tok Val):Prop:=t.v.Fits∧t.k≠0∧(t.k=5→∃ l,t.x=91::(l++[93])∧ivB l=true)∧t.x.length≤16384
def RdAt (m:Nat) (w:World) (R sz:Nat) (ts:List (Tok Val)):Prop:=∃ b off c,w.heap[R]? =some (.cells #[.slice (some ⟨b,off,none⟩) (ts.length+1) c] 74 (0,0))∧ts.length+1≤c∧b≠R∧(b<m∧R<m∧m≤w.heap.size)∧(ts.length≤16384∧∀ t∈ts,TkOk t)∧(∀ i (h:i<ts.length),TkC w b (off+i*7) ts[i])∧TkC w b (off+ts.length*7) (endT sz)
theorem RdAt.fr {P:Nat→Prop} {m:Nat} {w w':World} {R sz:Nat} {ts:List (Tok Val)} (h:RdAt m w R sz ts) (hf:Fr P w w') (hp:∀ k,P k→m≤k):RdAt m w' R sz ts:=by
 obtain ⟨b,off,c,h1,h2,h3,⟨h4,hR,hm⟩,h5,h6,h7⟩:=h
 exact ⟨b,off,c,hf.heap h1 (fun q=>by have:=hp _ q;omega),h2,h3,⟨h4,hR,Nat.le_trans hm hf.size⟩,h5,fun i hi=>(h6 i hi).fr hf (by omega) (fun q=>by have:=hp _ q;omega),h7.fr hf (by omega) (fun q=>by have:=hp _ q;omega)⟩
theorem RdAt.below {m:Nat} {w w':World} {R sz:Nat} {ts:List (Tok Val)} (h:RdAt m w R sz ts) (hb:Below w.heap.size w w'):RdAt m w' R sz ts:=h.fr (P:=fun _=>False) (Fr.of_below hb) (fun _ q=>q.elim)
theorem RdAt.lt {m:Nat} {w:World} {R sz:Nat} {ts:List (Tok Val)} (h:RdAt m w R sz ts):R<m∧m≤w.heap.size:=by obtain ⟨b,off,c,h1,h2,h3,⟨h4,hR,hm⟩, -⟩:=h;exact ⟨hR,hm⟩
theorem RdAt.cut {m:Nat} {w w':World} {R sz b off c:Nat} {t:Tok Val} {ts:List (Tok Val)} (h1:w'.heap[R]? =some (.cells #[.slice (some ⟨b,off+7,none⟩) (ts.length+1) c] 74 (0,0))) (h2:ts.length+1≤c) (h3:b≠R) (h4:b<m∧R<m∧m≤w.heap.size) (h5:(t::ts).length≤16384∧∀ x∈t::ts,TkOk x) (h6:∀ i (h:i<(t::ts).length),TkC w b (off+i*7) (t::ts)[i]) (h7:TkC w b (off+(t::ts).length*7) (endT sz)) (hf:Fr (fun k=>k=R) w w'):RdAt m w' R sz ts:=by
 have h4':b<w.heap.size:=by omega
 refine ⟨b,off+7,c,h1,h2,h3,⟨h4.1,h4.2.1,Nat.le_trans h4.2.2 hf.size⟩,⟨by have:=h5.1;simp at this;omega,fun x hx=>h5.2 x (List.mem_cons_of_mem _ hx)⟩,fun i hi=> ?_, ?_⟩
 ·have h:=(h6 (i+1) (by simp;omega)).fr hf h4' h3
  have e:off+7+i*7=off+(i+1)*7:=by omega
  rw [e]
  exact h
 ·have h:=h7.fr hf h4' h3
  have e:off+7+ts.length*7=off+(t::ts).length*7:=by simp;omega
  rw [e]
  exact h
def faultE (e a:Int):Ending:=.panicked [{v:=.iface 53 (.agg #[.int .i64 e,.int .i64 a]),recovered:=false}]
theorem next_any (m R sz:Nat) (ts:List (Tok Val)) (w:World) (h:RdAt m w R sz ts):
  Calls Tryz.prog 32 #[.pointer (some ⟨R,0,none⟩)] w fun e w'=>e=.returned (tkV (tkH sz ts))∧Fr (fun k=>k=R) w w'∧(∀ t r,ts=t::r→RdAt m w' R sz r):=by
 obtain ⟨b,off,c,h1,h2,h3,h4,h5,h6,h7⟩:=h
 have hR:=lt_heap h1
 have h4b:b<w.heap.size:=by omega
 have hc:w.cell? ⟨R,0,none⟩=some (.slice (some ⟨b,off,none⟩) (ts.length+1) c):=by rw [Lib.cell_of_heap h1];rfl
 have hz:w.frozen? ⟨R,0,none⟩=false:=Lib.frozen_of_heap h1 _
 have hH:TkC w b off (tkH sz ts):=by
  cases ts with
  | nil=>have h:=h7;simp only [List.length_nil,Nat.zero_mul,Nat.add_zero] at h;exact h
  | cons t r=>have h:=h6 0 (by simp);simp only [Nat.zero_mul,Nat.add_zero] at h;exact h
 unfold tkV
 obtain ⟨t0,t1,t2,t3,t4,t5,t6⟩:=hH
 have HR:Hid (w.heap[R]? =some (.cells #[.slice (some ⟨b,off,none⟩) (ts.length+1) c] 74 (0,0))):=h1
 clear h1
 generalize (tkH sz ts).k=tk at*
 generalize (tkH sz ts).at_=ta at*
 generalize txB (tkH sz ts)=tx at*
 generalize (tkH sz ts).v.k=vk at*
 generalize (tkH sz ts).v.n=vn at*
 generalize (tkH sz ts).v.d=vd at*
 generalize (tkH sz ts).v.s=vs at*
 go_enter Tryz.func32,Tryz.ntmps32
 go_wp2
 case inl=>
  have h0:ts=[]:=by cases ts with | nil=>rfl | cons t r=>simp at h2;omega
  refine bodyPost_ret (by simp [results,Tryz.results32,go_sem];try rfl) rfl ?_
  exact ⟨rfl,(((Fr.refl (fun k=>k=R) w).setCell (p:=⟨R,0,none⟩) (Or.inl rfl) _).alloc _).alloc _,fun t r e=>by rw [h0] at e;cases e⟩
 case inr=>
  refine bodyPost_ret (by simp [results,Tryz.results32,go_sem];try rfl) rfl ?_
  have F:Fr (fun k=>k=R) w (((w.setCell ⟨R,0,none⟩ (.slice (some ⟨b,off+7,none⟩) ts.length (c - 1))).alloc (.cells #[.int .i64 tk,.int .i64 ta,.string tx,.int .i64 vk,.int .i64 vn,.int .i64 vd,.string vs] 58)).alloc (.cells #[.int .i64 tk,.int .i64 ta,.string tx,.int .i64 vk,.int .i64 vn,.int .i64 vd,.string vs] 58)):=(((Fr.refl (fun k=>k=R) w).setCell (p:=⟨R,0,none⟩) (Or.inl rfl) _).alloc _).alloc _
  refine ⟨rfl,F,fun t r e=> ?_⟩
  subst e
  refine RdAt.cut (t:=t) (c:=c - 1) ?_ (by simp at h2;omega) h3 h4 h5 h6 h7 F
  have hs:=set_heap (j:=0) HR.out (.slice (some ⟨b,off+7,none⟩) (t::r).length (c - 1))
  have h8:R<(w.setCell ⟨R,0,none⟩ (.slice (some ⟨b,off+7,none⟩) (t::r).length (c - 1))).heap.size:=lt_heap hs
  exact (Below.heap_alloc _ _ _ (by simp;omega)).trans ((Below.heap_alloc _ _ _ h8).trans hs)
def RdO {α:Type} (m R sz:Nat) (w:World) (V:α→Value→World→Prop):Rd α→Ending→World→Prop
 | .bad er a,e,w'=>e=faultE er a∧Fr (fun k=>k=R) w w'
 | .ok x r,e,w'=>∃ v,e=.returned v∧V x v w'∧RdAt m w' R sz r∧Fr (fun k=>k=R) w w'
theorem beq_data (a:ByteArray) (y:List UInt8):(a.toList==y)=decide (a.data.toList=y):=by
 rw [toList_data]
 by_cases h:a.data.toList=y
 ·simp [h]
 ·simp [h]
theorem closes_any (m R sz:Nat) (ts:List (Tok Val)) (w:World) (h:RdAt m w R sz ts):
  Calls Tryz.prog 152 #[.pointer (some ⟨R,0,none⟩)] w fun e w'=>e=.returned (.bool (clos ts))∧w'=w:=by
 obtain ⟨b,off,c,h1,h2,h3,h4,h5,h6,h7⟩:=h
 have hR:=lt_heap h1
 have h4b:b<w.heap.size:=by omega
 have hc:w.cell? ⟨R,0,none⟩=some (.slice (some ⟨b,off,none⟩) (ts.length+1) c):=by rw [Lib.cell_of_heap h1];rfl
 have hH:TkC w b off (tkH sz ts):=by
  cases ts with
  | nil=>have h:=h7;simp only [List.length_nil,Nat.zero_mul,Nat.add_zero] at h;exact h
  | cons t r=>have h:=h6 0 (by simp);simp only [Nat.zero_mul,Nat.add_zero] at h;exact h
 obtain ⟨-, -,t2, -, -, -, -⟩:=hH
 have HC:Hid (clos ts=((txB (tkH sz ts)).toList==[41])):=by
  rw [beq_data]
  cases ts with
  | nil=>rfl
  | cons t r=>rfl
 rw [HC.out]
 clear HC h1 h6 h7
 generalize txB (tkH sz ts)=tx at*
 go_enter Tryz.func152,Tryz.ntmps152
 go_wp2
 go_ret
 exact ⟨rfl,rfl⟩
theorem misplaced_at (k a:Int) (x:ByteArray) (vk vn vd:Int) (vs:ByteArray) (w:World):
  Calls Tryz.prog 33 #[.agg #[.int .i64 k,.int .i64 a,.string x,.int .i64 vk,.int .i64 vn,.int .i64 vd,.string vs]] w fun e w'=>e=.returned (.agg #[.int .i64 70,.int .i64 a])∧Below w.heap.size w w':=by
 go_enter Tryz.func33,Tryz.ntmps33
 go_wp2
 refine bodyPost_ret (by simp [results,Tryz.results33,go_sem];try rfl) rfl ?_
 exact ⟨rfl,by go_grown⟩
def NxO (m R sz:Nat) (ts:List (Tok Val)) (w:World) (t:Value) (e:Ending) (w':World):Prop:=e=.returned t∧Fr (fun k=>k=R) w w'∧(∀ t r,ts=t::r→RdAt m w' R sz r)
theorem next_at (m R sz:Nat) (ts:List (Tok Val)) (w:World) (h:RdAt m w R sz ts):Calls Tryz.prog 32 #[.pointer (some ⟨R,0,none⟩)] w (NxO m R sz ts w (.agg #[.int .i64 (tkH sz ts).k,.int .i64 (tkH sz ts).at_,.string (txB (tkH sz ts)),.int .i64 (tkH sz ts).v.k,.int .i64 (tkH sz ts).v.n,.int .i64 (tkH sz ts).v.d,.string (tkH sz ts).v.s])):=next_any m R sz ts w h
theorem expect_any (m R sz:Nat) (ts:List (Tok Val)) (x:ByteArray) (hx:x.data.toList≠[]) (w:World) (h:RdAt m w R sz ts):
  Calls Tryz.prog 76 #[.pointer (some ⟨R,0,none⟩),.string x] w (RdO m R sz w (fun _ _ _=>True) (rExp sz x.data.toList ts)):=by
 have CN:Hid (Calls Tryz.prog 32 #[.pointer (some ⟨R,0,none⟩)] w (NxO m R sz ts w (.agg #[.int .i64 (tkH sz ts).k,.int .i64 (tkH sz ts).at_,.string (txB (tkH sz ts)),.int .i64 (tkH sz ts).v.k,.int .i64 (tkH sz ts).v.n,.int .i64 (tkH sz ts).v.d,.string (tkH sz ts).v.s]))):=next_at m R sz ts w h
 have HB:((txB (tkH sz ts)).toList==x.toList)=decide ((tkH sz ts).x=x.data.toList):=by rw [beq_data,toList_data x];rfl
 have HR:Hid (∃ u,rExp sz x.data.toList ts=if decide ((tkH sz ts).x=x.data.toList) then .ok () u else .bad 70 (tkH sz ts).at_):=by
  cases ts with
  | nil=>
   have hn:¬ (tkH sz []).x=x.data.toList:=fun e=>hx e.symm
   exact ⟨[],by rw [if_neg (by rw [decide_eq_true_eq];exact hn)];rfl⟩
  | cons t r=>exact ⟨r,by rw [rExp];by_cases hc:t.x=x.data.toList<;>simp [hc,tkH]⟩
 have HT:Hid (decide ((tkH sz ts).x=x.data.toList)=true→∀ u,rExp sz x.data.toList ts=.ok () u→∃ t,ts=t::u):=by
  intro hd u hu
  cases ts with
  | nil=>cases hu
  | cons t r=>
   rw [rExp,if_pos (show t.x=x.data.toList from of_decide_eq_true hd)] at hu
   injection hu with _ hu
   exact ⟨t,by rw [hu]⟩
 obtain ⟨tb,htb⟩:∃ b:Bool,Hid (decide ((tkH sz ts).x=x.data.toList)=b):=⟨_,rfl⟩
 rw [htb.out] at HB HR HT
 clear htb
 generalize rExp sz x.data.toList ts=RS at*
 obtain ⟨u,hu⟩:=HR.out
 clear HR
 generalize (tkH sz ts).k=tk at*
 generalize (tkH sz ts).at_=ta at*
 generalize txB (tkH sz ts)=tx at*
 generalize (tkH sz ts).v.k=vk at*
 generalize (tkH sz ts).v.n=vn at*
 generalize (tkH sz ts).v.d=vd at*
 generalize (tkH sz ts).v.s=vs at*
 cases tb with
 | true=>
  rw [if_pos rfl] at hu
  have hT:∃ t,ts=t::u:=HT.out rfl u hu
  subst hu
  clear HT
  go_enter Tryz.func76,Tryz.ntmps76
  go_wp2_with fail
  refine CN.out.mono ?_
  rintro e w1 ⟨rfl,hF,hN⟩
  obtain ⟨t,ht⟩:=hT
  have A1:Hid (RdAt m w1 R sz u):=hN t u ht
  have F1:Hid (Fr (fun k=>k=R) w w1):=hF
  clear hF hN CN ht
  go_wp2
  go_end0
  exact ⟨_,rfl,trivial,A1.out.below (by go_grown),F1.out.alloc _⟩
 | false=>
  rw [if_neg (by simp)] at hu
  subst hu
  clear HT
  go_enter Tryz.func76,Tryz.ntmps76
  go_wp2_with fail
  refine CN.out.mono ?_
  rintro e w1 ⟨rfl,hF,hN⟩
  have F1:Hid (Fr (fun k=>k=R) w w1):=hF
  clear hF hN CN
  go_wp2_with fail
  refine (misplaced_at _ _ _ _ _ _ _ _).mono ?_
  rintro e w2 ⟨rfl,hb2⟩
  have F2:Fr (fun k=>k=R) w w2:=(F1.out.alloc _).trans (Fr.of_below (P:=fun _=>False) hb2) (fun _ q=>q.elim)
  clear hb2 F1
  go_wp2
  exact ⟨rfl,rfl,F2⟩
end Go.Proofs.YticnfeolbfmgfaaGreatDoor
namespace Go.Proofs.YticnfeolbfmgfaaGreatDoor
open Go.RowKit Go.Shelf LX
set_option linter.unusedVariables false
theorem sclone_any (s:ByteArray) (w:World) (hs:s.size≤281474976710656):
  Calls Tryz.prog 72 #[.string s] w fun e w'=>e=.returned (.string s)∧Below w.heap.size w w':=by
 go_enter Tryz.func72,Tryz.ntmps72
 go_wp2_with fail
 refine (Tryz.stringslite_Clone s _ hs).mono ?_
 rintro e w1 ⟨rfl,hb⟩
 go_wp2
 go_ret
 exact ⟨rfl,hb⟩
structure BlkT (W:World) (B:Nat) (K at_:Int) (x:ByteArray) (k n d:Int) (s:ByteArray):Prop where
 c0:W.cell? ⟨B,0,none⟩=some (.int .i64 K)
 c1:W.cell? ⟨B,1,none⟩=some (.int .i64 at_)
 c2:W.cell? ⟨B,2,none⟩=some (.string x)
 c3:W.cell? ⟨B,3,none⟩=some (.int .i64 k)
 c4:W.cell? ⟨B,4,none⟩=some (.int .i64 n)
 c5:W.cell? ⟨B,5,none⟩=some (.int .i64 d)
 c6:W.cell? ⟨B,6,none⟩=some (.string s)
 f0:W.frozen? ⟨B,0,none⟩=false
 f1:W.frozen? ⟨B,1,none⟩=false
 f2:W.frozen? ⟨B,2,none⟩=false
 f3:W.frozen? ⟨B,3,none⟩=false
 f4:W.frozen? ⟨B,4,none⟩=false
 f5:W.frozen? ⟨B,5,none⟩=false
 f6:W.frozen? ⟨B,6,none⟩=false
theorem BlkT.below {W W':World} {B m:Nat} {K at_ k n d:Int} {x s:ByteArray} (h:BlkT W B K at_ x k n d s) (hb:Below m W W') (hB:B<m):BlkT W' B K at_ x k n d s:=
 ⟨(hb.cell (p:=⟨B,0,none⟩) hB).trans h.c0,(hb.cell (p:=⟨B,1,none⟩) hB).trans h.c1,(hb.cell (p:=⟨B,2,none⟩) hB).trans h.c2,(hb.cell (p:=⟨B,3,none⟩) hB).trans h.c3,(hb.cell (p:=⟨B,4,none⟩) hB).trans h.c4,(hb.cell (p:=⟨B,5,none⟩) hB).trans h.c5,(hb.cell (p:=⟨B,6,none⟩) hB).trans h.c6,
  (hb.frozen (p:=⟨B,0,none⟩) hB).trans h.f0,(hb.frozen (p:=⟨B,1,none⟩) hB).trans h.f1,(hb.frozen (p:=⟨B,2,none⟩) hB).trans h.f2,(hb.frozen (p:=⟨B,3,none⟩) hB).trans h.f3,(hb.frozen (p:=⟨B,4,none⟩) hB).trans h.f4,(hb.frozen (p:=⟨B,5,none⟩) hB).trans h.f5,(hb.frozen (p:=⟨B,6,none⟩) hB).trans h.f6⟩
theorem BlkT.seven {W:World} {B:Nat} {K at_ k n d K' at' k' n' d':Int} {x s x' s':ByteArray} (h:BlkT W B K at_ x k n d s):BlkT (((((((W.setCell ⟨B,0,none⟩ (.int .i64 K')).setCell ⟨B,1,none⟩ (.int .i64 at')).setCell ⟨B,2,none⟩ (.string x')).setCell ⟨B,3,none⟩ (.int .i64 k')).setCell ⟨B,4,none⟩ (.int .i64 n')).setCell ⟨B,5,none⟩ (.int .i64 d')).setCell ⟨B,6,none⟩ (.string s')) B K' at' x' k' n' d' s':=by
 obtain ⟨c0,c1,c2,c3,c4,c5,c6,f0,f1,f2,f3,f4,f5,f6⟩:=h
 constructor<;>simp (maxDischargeDepth:=16) [go_sem,c0,c1,c2,c3,c4,c5,c6,f0,f1,f2,f3,f4,f5,f6]
theorem below7 {B0 B:Nat} {w W:World} (h:Below B0 w W) (hB:B0≤B) (v0 v1 v2 v3 v4 v5 v6:Value):Below B0 w (((((((W.setCell ⟨B,0,none⟩ v0).setCell ⟨B,1,none⟩ v1).setCell ⟨B,2,none⟩ v2).setCell ⟨B,3,none⟩ v3).setCell ⟨B,4,none⟩ v4).setCell ⟨B,5,none⟩ v5).setCell ⟨B,6,none⟩ v6):=
 ((((((h.setCell hB _).setCell hB _).setCell hB _).setCell hB _).setCell hB _).setCell hB _).setCell hB _
theorem token_no (s:ByteArray) (i:Nat) (E:Int) (w:World)
  (BH:Hid (∀ W:World,Calls Tryz.prog 71 #[.string s,.int .i64 i] W fun e w'=>e=.returned (.tuple #[.int .i64 0,.int .i64 E])∧w'=W)):
  Calls Tryz.prog 30 #[.string s,.int .i64 i] w fun e w'=>e=.returned (.tuple #[.agg #[.int .i64 0,.int .i64 0,.string ⟨#[]⟩,.int .i64 0,.int .i64 0,.int .i64 0,.string ⟨#[]⟩],.bool false])∧Below w.heap.size w w':=by
 go_enter Tryz.func30,Tryz.ntmps30
 go_wp2_with fail
 refine (BH.out _).mono ?_
 rintro e w1 ⟨rfl,rfl⟩
 go_wp2
 refine bodyPost_ret (by simp [results,Tryz.results30,go_sem];try rfl) rfl ?_
 exact ⟨rfl,(Below.refl _ w).alloc (Nat.le_refl _) _⟩
theorem token_yes (s x S:ByteArray) (i m:Nat) (K k n d:Int) (ok:Bool) (w:World) (hK:¬ K=0) (him:i≤m) (hm:m≤s.size) (hs:s.size≤16384) (hx:s.extract i m=x)
  (BH:Hid (∀ W:World,Calls Tryz.prog 71 #[.string s,.int .i64 i] W fun e w'=>e=.returned (.tuple #[.int .i64 K,.int .i64 m])∧w'=W))
  (CL:Hid (∀ W:World,Calls Tryz.prog 72 #[.string x] W fun e w'=>e=.returned (.string x)∧Below W.heap.size W w'))
  (SA:Hid (∀ W:World,Pow W→Errs W→6≤W.heap.size→Calls Tryz.prog 73 #[.int .i64 K,.string x] W fun e w'=>e=.returned (.tuple #[.agg #[.int .i64 k,.int .i64 n,.int .i64 d,.string S],.bool ok])∧Below W.heap.size W w'))
  (ht:Pow w) (he:Errs w) (h8:6≤w.heap.size):
  Calls Tryz.prog 30 #[.string s,.int .i64 i] w fun e w'=>e=.returned (.tuple #[.agg #[.int .i64 K,.int .i64 i,.string x,.int .i64 k,.int .i64 n,.int .i64 d,.string S],.bool ok])∧Below w.heap.size w w':=by
 have HE:Hid (Errs w):=he
 have HP:Hid (Pow w):=ht
 clear he ht
 have him':(i:Int)≤m:=by omega
 have hm':(m:Int)≤s.size:=by omega
 go_enter Tryz.func30,Tryz.ntmps30
 go_wp2_with fail
 refine (BH.out _).mono ?_
 rintro e w1 ⟨rfl,rfl⟩
 go_wp2_with fail
 refine (CL.out _).mono ?_
 rintro e w1 ⟨rfl,hb1⟩
 have R1:Hid (BlkT w1 w.heap.size 0 0 ⟨#[]⟩ 0 0 0 ⟨#[]⟩):=BlkT.below (by constructor<;>simp (maxDischargeDepth:=16) [go_sem]) hb1 (by simp)
 have B1:Below w.heap.size w w1:=((Below.refl _ w).alloc (Nat.le_refl _) _).trans (hb1.mono (by simp))
 have z1:w.heap.size<w1.heap.size:=by have:=hb1.size;simp at this;omega
 clear hb1
 go_wp2_with fail
 refine (SA.out _ (HP.out.below B1) (HE.out.below B1 h8) (by omega)).mono ?_
 rintro e w2 ⟨rfl,hb2⟩
 have R2:Hid (BlkT w2 w.heap.size 0 0 ⟨#[]⟩ 0 0 0 ⟨#[]⟩):=R1.out.below hb2 z1
 have B2:Below w.heap.size w w2:=B1.trans (hb2.mono B1.size)
 have z2:w.heap.size<w2.heap.size:=by have:=hb2.size;omega
 clear R1 B1 hb2
 go_upto_region 6 with fail
 refine wp_world ?_
 intro W3 hW3
 have R3:Hid (BlkT W3 w.heap.size 0 0 ⟨#[]⟩ 0 0 0 ⟨#[]⟩):=by rw [hW3];exact R2.out.below ((Below.refl w2.heap.size w2).alloc (Nat.le_refl _) _) z2
 have V3:Hid (BlkV W3 w2.heap.size k n d S):=by rw [hW3];constructor<;>simp (maxDischargeDepth:=12) [go_sem]
 have B3:Below w.heap.size w W3:=by rw [hW3];exact B2.alloc B2.size _
 clear hW3 R2 B2
 obtain ⟨r0,r1,r2,r3,r4,r5,r6,q0,q1,q2,q3,q4,q5,q6⟩:=R3.out
 obtain ⟨v0,v1,v2,v3, -, -, -, -⟩:=V3.out
 go_wp2
 generalize hW9:World.setCell _ _ _=W9
 have b9:BlkT W9 w.heap.size K i x k n d S:=by rw [← hW9];exact R3.out.seven
 have hB9:Below w.heap.size w W9:=by rw [← hW9];exact below7 B3 (Nat.le_refl _) _ _ _ _ _ _ _
 clear hW9
 obtain ⟨x0,x1,x2,x3,x4,x5,x6, -, -, -, -, -, -, -⟩:=b9
 refine bodyPost_ret (by simp [results,Tryz.results30,go_sem,x0,x1,x2,x3,x4,x5,x6];try rfl) rfl ?_
 exact ⟨rfl,hB9⟩
theorem beh_5 (l:List UInt8) (h:(beh l).1=5):2≤(beh l).2:=by
 cases l with
 | nil=>simp [beh] at h
 | cons c t=>
  revert h
  rw [beh_cons]
  split
  ·simp
  split
  ·simp
  split
  ·simp
  split
  ·simp
  split
  ·simp
  split
  ·simp
  split
  ·cases hb:brk t with
   | none=>simp
   | some k=>intro _;have:=brk_le t k hb;simp;omega
  split
  ·cases hb:qend false t with
   | none=>simp
   | some k=>simp
  split
  ·simp
  ·simp
theorem token_any (s:ByteArray) (i:Nat) (w:World) (hs:s.size≤16384) (hi:i<s.size) (ht:Pow w) (he:Errs w) (h8:6≤w.heap.size):
  Calls Tryz.prog 30 #[.string s,.int .i64 i] w fun e w'=>∃ (K at_ k n d:Int) (x S:ByteArray) (ok:Bool),e=.returned (.tuple #[.agg #[.int .i64 K,.int .i64 at_,.string x,.int .i64 k,.int .i64 n,.int .i64 d,.string S],.bool ok])∧Below w.heap.size w w'∧
   Hid ((ok=true↔fine sdB (s.data.toList.drop i))∧(ok=true→tokAt sdB (s.data.toList.drop i) i=⟨K.toNat,at_.toNat,x.data.toList,⟨k,n,d,S⟩⟩∧K=K.toNat∧at_=i∧1≤x.size∧i+x.size≤s.size)):=by
 have BH:=fun (W:World)=>behind_any s i W hs hi
 have hl:s.data.toList.length=s.size:=by simp
 obtain ⟨b,hb⟩:∃ b,beh (s.data.toList.drop i)=b:=⟨_,rfl⟩
 obtain ⟨K,n⟩:=b
 rw [hb] at BH
 by_cases hK:K=0
 ·subst hK
  refine (token_no s i _ w BH).mono ?_
  rintro e w' ⟨rfl,hB⟩
  refine ⟨_,_,_,_,_,_,_,_,rfl,hB, ?_, ?_⟩
  ·constructor
   ·intro h;cases h
   ·intro h;exact absurd (by rw [hb]) h.1
  ·intro h;cases h
 ·have hle:=beh_le (s.data.toList.drop i) (by rw [hb];exact hK)
  rw [hb] at hle
  simp only [List.length_drop,hl] at hle
  dsimp only at BH
  rw [if_neg hK] at BH
  have hx:s.extract i (i+n)=⟨((s.data.toList.drop i).take n).toArray⟩:=ba_eq (by rw [ext_mid,Nat.add_sub_cancel_left])
  have hxl:(⟨((s.data.toList.drop i).take n).toArray⟩:ByteArray).size=n:=by
   show ((s.data.toList.drop i).take n).toArray.size=n
   simp
   omega
  have two:K=5→2≤n:=by
   intro h5
   have:=beh_5 (s.data.toList.drop i) (by rw [hb];exact h5)
   rw [hb] at this
   exact this
  refine (token_yes s _ (sdB K ((s.data.toList.drop i).take n)).1.s i (i+n) K (sdB K ((s.data.toList.drop i).take n)).1.k (sdB K ((s.data.toList.drop i).take n)).1.n (sdB K ((s.data.toList.drop i).take n)).1.d (sdB K ((s.data.toList.drop i).take n)).2 w (by omega) (by omega) (by omega) hs hx BH (fun W=>sclone_any _ W (by rw [hxl];omega)) (fun W q1 q2 q3=>by
   have q:=said_any K ⟨((s.data.toList.drop i).take n).toArray⟩ W (by rw [hxl];omega) q1 q2 q3 (by rw [hxl];exact two) (by rw [hxl];intro _;omega)
   exact q) ht he h8).mono ?_
  rintro e w' ⟨rfl,hB⟩
  refine ⟨_,_,_,_,_,_,_,_,rfl,hB, ?_, ?_⟩
  ·unfold fine
   rw [hb]
   exact ⟨fun h=>⟨hK,h⟩,fun h=>h.2⟩
  ·intro _
   refine ⟨?_,rfl,rfl,by rw [hxl];omega,by rw [hxl];omega⟩
   unfold tokAt
   rw [hb]
   rfl
end Go.Proofs.YticnfeolbfmgfaaGreatDoor
namespace Go.Proofs.YticnfeolbfmgfaaGreatDoor
open Go.RowKit LX Go.Shelf
set_option linter.unusedVariables false
theorem BlkT.fr {P:Nat→Prop} {W W':World} {B:Nat} {K at_ k n d:Int} {x s:ByteArray} (h:BlkT W B K at_ x k n d s) (hf:Fr P W W') (hB:B<W.heap.size) (hp:¬ P B):BlkT W' B K at_ x k n d s:=by
 have e:=hf.block B hB hp
 have c:∀ j,W'.cell? ⟨B,j,none⟩=W.cell? ⟨B,j,none⟩:=fun j=>cell_sameQ e j
 have f:∀ j,W'.frozen? ⟨B,j,none⟩=W.frozen? ⟨B,j,none⟩:=fun j=>by unfold World.frozen?;rw [e]
 obtain ⟨c0,c1,c2,c3,c4,c5,c6,f0,f1,f2,f3,f4,f5,f6⟩:=h
 exact ⟨(c _).trans c0,(c _).trans c1,(c _).trans c2,(c _).trans c3,(c _).trans c4,(c _).trans c5,(c _).trans c6,(f _).trans f0,(f _).trans f1,(f _).trans f2,(f _).trans f3,(f _).trans f4,(f _).trans f5,(f _).trans f6⟩
theorem fr7 {P:Nat→Prop} {B:Nat} {w W:World} (h:Fr P w W) (hB:P B∨w.heap.size≤B) (v0 v1 v2 v3 v4 v5 v6:Value):Fr P w (((((((W.setCell ⟨B,0,none⟩ v0).setCell ⟨B,1,none⟩ v1).setCell ⟨B,2,none⟩ v2).setCell ⟨B,3,none⟩ v3).setCell ⟨B,4,none⟩ v4).setCell ⟨B,5,none⟩ v5).setCell ⟨B,6,none⟩ v6):=
 ((((((h.setCell (p:=⟨B,0,none⟩) hB _).setCell (p:=⟨B,1,none⟩) hB _).setCell (p:=⟨B,2,none⟩) hB _).setCell (p:=⟨B,3,none⟩) hB _).setCell (p:=⟨B,4,none⟩) hB _).setCell (p:=⟨B,5,none⟩) hB _).setCell (p:=⟨B,6,none⟩) hB _
theorem begin_deep (m R sz:Nat) (ts:List (Tok Val)) (d:Int) (w:World) (h:RdAt m w R sz ts) (hd:24<d) (hk:(tkH sz ts).k≠0):
  Calls Tryz.prog 74 #[.pointer (some ⟨R,0,none⟩),.int .i64 d] w fun e w'=>e=faultE 71 (tkH sz ts).at_∧Fr (fun k=>k=R) w w':=by
 have CN:Hid (∀ W:World,Below w.heap.size w W→Calls Tryz.prog 32 #[.pointer (some ⟨R,0,none⟩)] W (NxO m R sz ts W (.agg #[.int .i64 (tkH sz ts).k,.int .i64 (tkH sz ts).at_,.string (txB (tkH sz ts)),.int .i64 (tkH sz ts).v.k,.int .i64 (tkH sz ts).v.n,.int .i64 (tkH sz ts).v.d,.string (tkH sz ts).v.s]))):=fun W hW=>next_at m R sz ts W (h.below hW)
 generalize (tkH sz ts).k=tk at*
 generalize (tkH sz ts).at_=ta at*
 generalize txB (tkH sz ts)=tx at*
 generalize (tkH sz ts).v.k=vk at*
 generalize (tkH sz ts).v.n=vn at*
 generalize (tkH sz ts).v.d=vd at*
 generalize (tkH sz ts).v.s=vs at*
 have hk':¬ (tk:Int)=0:=by omega
 go_enter Tryz.func74,Tryz.ntmps74
 go_wp2_with fail
 refine (CN.out _ (by go_grown)).mono ?_
 rintro e w1 ⟨rfl,hF,hN⟩
 have F1:Hid (Fr (fun k=>k=R) w w1):=((Fr.refl (fun k=>k=R) w).alloc _).trans hF (fun k e=>Or.inl e)
 clear hF hN CN
 go_wp2
 exact ⟨rfl,rfl,F1.out.alloc _⟩
theorem begin_any (m R sz:Nat) (ts:List (Tok Val)) (d:Int) (w:World) (h:RdAt m w R sz ts) (hd:¬ (24<d∧(tkH sz ts).k≠0)):
  Calls Tryz.prog 74 #[.pointer (some ⟨R,0,none⟩),.int .i64 d] w (NxO m R sz ts w (.agg #[.int .i64 (tkH sz ts).k,.int .i64 (tkH sz ts).at_,.string (txB (tkH sz ts)),.int .i64 (tkH sz ts).v.k,.int .i64 (tkH sz ts).v.n,.int .i64 (tkH sz ts).v.d,.string (tkH sz ts).v.s])):=by
 have CN:Hid (∀ W:World,Below w.heap.size w W→Calls Tryz.prog 32 #[.pointer (some ⟨R,0,none⟩)] W (NxO m R sz ts W (.agg #[.int .i64 (tkH sz ts).k,.int .i64 (tkH sz ts).at_,.string (txB (tkH sz ts)),.int .i64 (tkH sz ts).v.k,.int .i64 (tkH sz ts).v.n,.int .i64 (tkH sz ts).v.d,.string (tkH sz ts).v.s]))):=fun W hW=>next_at m R sz ts W (h.below hW)
 have hlt:=h.lt
 generalize (tkH sz ts).k=tk at*
 generalize (tkH sz ts).at_=ta at*
 generalize txB (tkH sz ts)=tx at*
 generalize (tkH sz ts).v.k=vk at*
 generalize (tkH sz ts).v.n=vn at*
 generalize (tkH sz ts).v.d=vd at*
 generalize (tkH sz ts).v.s=vs at*
 by_cases h24:24<d
 case pos=>
  obtain rfl:tk=0:=by omega
  go_enter Tryz.func74,Tryz.ntmps74
  go_wp2_with fail
  refine (CN.out _ (by go_grown)).mono ?_
  rintro e w1 ⟨rfl,hF,hN⟩
  have F1:Hid (Fr (fun k=>k=R) w w1):=((Fr.refl (fun k=>k=R) w).alloc _).trans hF (fun k e=>Or.inl e)
  have z1:w.heap.size<w1.heap.size:=by have:=hF.size;simp at this;omega
  have R1:Hid (BlkT w1 w.heap.size 0 0 ⟨#[]⟩ 0 0 0 ⟨#[]⟩):=BlkT.fr (W:=w.alloc (.cells #[.int .i64 0,.int .i64 0,.string ⟨#[]⟩,.int .i64 0,.int .i64 0,.int .i64 0,.string ⟨#[]⟩] 58)) (by constructor<;>simp (maxDischargeDepth:=16) [go_sem]) hF (by simp) (fun e=>by omega)
  have N1:Hid (∀ t r,ts=t::r→RdAt m w1 R sz r):=hN
  clear hF hN CN
  go_upto_region 2 with fail
  refine wp_world ?_
  intro W2 hW2
  have R2:Hid (BlkT W2 w.heap.size 0 0 ⟨#[]⟩ 0 0 0 ⟨#[]⟩):=by rw [hW2];exact R1.out.below ((Below.refl w1.heap.size w1).alloc (Nat.le_refl _) _) z1
  have V2:Hid (BlkT W2 w1.heap.size ((0:Nat):Int) ta tx vk vn vd vs):=by rw [hW2];constructor<;>simp (maxDischargeDepth:=16) [go_sem]
  have F2:Hid (Fr (fun k=>k=R) w W2):=by rw [hW2];exact F1.out.alloc _
  have A2:Hid (∀ t r,ts=t::r→RdAt m W2 R sz r):=fun t r e=>by rw [hW2];exact (N1.out t r e).below ((Below.refl w1.heap.size w1).alloc (Nat.le_refl _) _)
  clear hW2 R1 F1 N1
  obtain ⟨r0,r1,r2,r3,r4,r5,r6,q0,q1,q2,q3,q4,q5,q6⟩:=R2.out
  obtain ⟨v0,v1,v2,v3,v4,v5,v6, -, -, -, -, -, -, -⟩:=V2.out
  generalize w1.heap.size=n1 at*
  go_wp2
  generalize hW9:World.setCell _ _ _=W9
  have b9:BlkT W9 w.heap.size ((0:Nat):Int) ta tx vk vn vd vs:=by rw [← hW9];exact R2.out.seven
  have F9:Fr (fun k=>k=R) w W9:=by rw [← hW9];exact fr7 F2.out (Or.inr (Nat.le_refl _)) _ _ _ _ _ _ _
  have F19:Fr (fun k=>k=w.heap.size) W2 W9:=by rw [← hW9];exact fr7 (Fr.refl (fun k=>k=w.heap.size) W2) (Or.inl rfl) _ _ _ _ _ _ _
  clear hW9
  obtain ⟨x0,x1,x2,x3,x4,x5,x6, -, -, -, -, -, -, -⟩:=b9
  refine bodyPost_ret (by simp [results,Tryz.results74,go_sem,x0,x1,x2,x3,x4,x5,x6];try rfl) rfl ?_
  exact ⟨rfl,F9,fun t r e=>RdAt.fr (A2.out t r e) F19 (fun k e=>by omega)⟩
 case neg=>
  go_enter Tryz.func74,Tryz.ntmps74
  go_wp2_with fail
  refine (CN.out _ (by go_grown)).mono ?_
  rintro e w1 ⟨rfl,hF,hN⟩
  have F1:Hid (Fr (fun k=>k=R) w w1):=((Fr.refl (fun k=>k=R) w).alloc _).trans hF (fun k e=>Or.inl e)
  have z1:w.heap.size<w1.heap.size:=by have:=hF.size;simp at this;omega
  have R1:Hid (BlkT w1 w.heap.size 0 0 ⟨#[]⟩ 0 0 0 ⟨#[]⟩):=BlkT.fr (W:=w.alloc (.cells #[.int .i64 0,.int .i64 0,.string ⟨#[]⟩,.int .i64 0,.int .i64 0,.int .i64 0,.string ⟨#[]⟩] 58)) (by constructor<;>simp (maxDischargeDepth:=16) [go_sem]) hF (by simp) (fun e=>by omega)
  have N1:Hid (∀ t r,ts=t::r→RdAt m w1 R sz r):=hN
  clear hF hN CN
  go_upto_region 2 with fail
  refine wp_world ?_
  intro W2 hW2
  have R2:Hid (BlkT W2 w.heap.size 0 0 ⟨#[]⟩ 0 0 0 ⟨#[]⟩):=by rw [hW2];exact R1.out.below ((Below.refl w1.heap.size w1).alloc (Nat.le_refl _) _) z1
  have V2:Hid (BlkT W2 w1.heap.size tk ta tx vk vn vd vs):=by rw [hW2];constructor<;>simp (maxDischargeDepth:=16) [go_sem]
  have F2:Hid (Fr (fun k=>k=R) w W2):=by rw [hW2];exact F1.out.alloc _
  have A2:Hid (∀ t r,ts=t::r→RdAt m W2 R sz r):=fun t r e=>by rw [hW2];exact (N1.out t r e).below ((Below.refl w1.heap.size w1).alloc (Nat.le_refl _) _)
  clear hW2 R1 F1 N1
  obtain ⟨r0,r1,r2,r3,r4,r5,r6,q0,q1,q2,q3,q4,q5,q6⟩:=R2.out
  obtain ⟨v0,v1,v2,v3,v4,v5,v6, -, -, -, -, -, -, -⟩:=V2.out
  generalize w1.heap.size=n1 at*
  go_wp2
  generalize hW9:World.setCell _ _ _=W9
  have b9:BlkT W9 w.heap.size tk ta tx vk vn vd vs:=by rw [← hW9];exact R2.out.seven
  have F9:Fr (fun k=>k=R) w W9:=by rw [← hW9];exact fr7 F2.out (Or.inr (Nat.le_refl _)) _ _ _ _ _ _ _
  have F19:Fr (fun k=>k=w.heap.size) W2 W9:=by rw [← hW9];exact fr7 (Fr.refl (fun k=>k=w.heap.size) W2) (Or.inl rfl) _ _ _ _ _ _ _
  clear hW9
  obtain ⟨x0,x1,x2,x3,x4,x5,x6, -, -, -, -, -, -, -⟩:=b9
  refine bodyPost_ret (by simp [results,Tryz.results74,go_sem,x0,x1,x2,x3,x4,x5,x6];try rfl) rfl ?_
  exact ⟨rfl,F9,fun t r e=>RdAt.fr (A2.out t r e) F19 (fun k e=>by omega)⟩
theorem nameB_nil:nameB ⟨#[]⟩=false:=rfl
theorem tb_nil {sz:Nat}:txB (tkH sz [])=⟨#[]⟩:=rfl
theorem rName_eq (sz:Nat) (ts:List (Tok Val)):∃ u,rName sz ts=(if nameB (txB (tkH sz ts)) then .ok (txB (tkH sz ts)) u else .bad 70 (tkH sz ts).at_)∧(nameB (txB (tkH sz ts))=true→∃ t,ts=t::u):=by
 cases ts with
 | nil=>exact ⟨[],rfl,fun e=>by rw [tb_nil,nameB_nil] at e;cases e⟩
 | cons t r=>exact ⟨r,rfl,fun _=>⟨t,rfl⟩⟩
theorem rdname_any (m R sz:Nat) (ts:List (Tok Val)) (w:World) (h:RdAt m w R sz ts):
  Calls Tryz.prog 154 #[.pointer (some ⟨R,0,none⟩)] w (RdO m R sz w (fun x v _=>v=.string x) (rName sz ts)):=by
 have CN:Hid (∀ W:World,Below w.heap.size w W→Calls Tryz.prog 32 #[.pointer (some ⟨R,0,none⟩)] W (NxO m R sz ts W (.agg #[.int .i64 (tkH sz ts).k,.int .i64 (tkH sz ts).at_,.string (txB (tkH sz ts)),.int .i64 (tkH sz ts).v.k,.int .i64 (tkH sz ts).v.n,.int .i64 (tkH sz ts).v.d,.string (tkH sz ts).v.s]))):=fun W hW=>next_at m R sz ts W (h.below hW)
 obtain ⟨u,hu,hT⟩:=rName_eq sz ts
 rw [hu]
 obtain ⟨tb,htb⟩:∃ b:Bool,Hid (nameB (txB (tkH sz ts))=b):=⟨_,rfl⟩
 have hNm:Hid (∀ W:World,Calls Tryz.prog 119 #[.string (txB (tkH sz ts))] W fun e w'=>e=.returned (.bool tb)∧w'=W):=fun W=>(name_any _ W).mono fun e w' h=>⟨by rw [h.1,htb.out],h.2⟩
 rw [htb.out] at hT ⊢
 clear htb hu
 generalize (tkH sz ts).k=tk at*
 generalize (tkH sz ts).at_=ta at*
 generalize txB (tkH sz ts)=tx at*
 generalize (tkH sz ts).v.k=vk at*
 generalize (tkH sz ts).v.n=vn at*
 generalize (tkH sz ts).v.d=vd at*
 generalize (tkH sz ts).v.s=vs at*
 cases tb with
 | true=>
  obtain ⟨t,ht⟩:=hT rfl
  rw [if_pos rfl]
  go_enter Tryz.func154,Tryz.ntmps154
  go_wp2_with fail
  refine (CN.out _ (by go_grown)).mono ?_
  rintro e w1 ⟨rfl,hF,hN⟩
  have F1:Hid (Fr (fun k=>k=R) w w1):=hF
  have N1:Hid (∀ t r,ts=t::r→RdAt m w1 R sz r):=hN
  clear hF hN CN
  go_wp2_with fail
  refine (hNm.out _).mono ?_
  rintro e w2 ⟨rfl,rfl⟩
  clear hNm
  have A1:Hid (RdAt m w1 R sz u):=N1.out t u ht
  clear N1
  go_wp2
  go_ret
  exact ⟨_,rfl,rfl,A1.out.below (by go_grown),F1.out.alloc _⟩
 | false=>
  rw [if_neg (by simp)]
  clear hT
  go_enter Tryz.func154,Tryz.ntmps154
  go_wp2_with fail
  refine (CN.out _ (by go_grown)).mono ?_
  rintro e w1 ⟨rfl,hF,hN⟩
  have F1:Hid (Fr (fun k=>k=R) w w1):=hF
  have N1:Hid (∀ t r,ts=t::r→RdAt m w1 R sz r):=hN
  clear hF hN CN
  go_wp2_with fail
  refine (hNm.out _).mono ?_
  rintro e w2 ⟨rfl,rfl⟩
  clear hNm
  clear N1
  go_wp2_with fail
  refine (misplaced_at _ _ _ _ _ _ _ _).mono ?_
  rintro e w3 ⟨rfl,hb3⟩
  have F3:Fr (fun k=>k=R) w w3:=(F1.out.alloc _).trans (Fr.of_below (P:=fun _=>False) hb3) (fun _ q=>q.elim)
  clear hb3 F1
  go_wp2
  exact ⟨rfl,rfl,F3⟩
theorem rNms_end {sz:Nat} {r:List (Tok Val)} (h:clos r=true):rNms sz r=.ok [] r:=by
 cases r with
 | nil=>cases h
 | cons t r=>rw [rNms,if_pos (of_decide_eq_true h)]
theorem rNms_bad {sz:Nat} {r:List (Tok Val)} {e a:Int} (h:clos r=false) (hn:rName sz r=.bad e a):rNms sz r=.bad e a:=by
 cases r with
 | nil=>injection hn with h1 h2;subst h1 h2;rfl
 | cons t r=>
  rw [rNms,if_neg (of_decide_eq_false h)]
  rw [rName] at hn
  split at hn
  ·cases hn
  ·rename_i hb
   rw [if_neg hb]
   injection hn with h1 h2;subst h1 h2;rfl
theorem rNms_ok {sz:Nat} {r r2:List (Tok Val)} {x:ByteArray} (h:clos r=false) (hn:rName sz r=.ok x r2):rNms sz r=(rNms sz r2).bind fun l r'=>.ok (x::l) r':=by
 cases r with
 | nil=>cases hn
 | cons t r=>
  rw [rNms,if_neg (of_decide_eq_false h)]
  rw [rName] at hn
  split at hn
  ·rename_i hb
   rw [if_pos hb]
   injection hn with h1 h2
   subst h1 h2
   rfl
  ·cases hn
theorem rName_shorter {sz:Nat} {r r2:List (Tok Val)} {x:ByteArray} (hn:rName sz r=.ok x r2):r2.length+1≤r.length:=by
 have h:=sh_name sz r x r2 hn
 cases r with
 | nil=>cases hn
 | cons t r=>simp at h ⊢;omega
def rdLen (R:Nat) (w:World):Nat:=match w.cell? ⟨R,0,none⟩ with
 | some (.slice _ n _)=>n
 | _=>0
theorem RdAt.len {m:Nat} {w:World} {R sz:Nat} {ts:List (Tok Val)} (h:RdAt m w R sz ts):rdLen R w=ts.length+1:=by
 obtain ⟨b,off,c,h1, -⟩:=h
 have hc:w.cell? ⟨R,0,none⟩=some (.slice (some ⟨b,off,none⟩) (ts.length+1) c):=by rw [Lib.cell_of_heap h1];rfl
 unfold rdLen
 rw [hc]
theorem RdAt.many {m:Nat} {w:World} {R sz:Nat} {ts:List (Tok Val)} (h:RdAt m w R sz ts):ts.length≤16384:=by
 obtain ⟨b,off,c,h1,h2,h3,h4,h5, -⟩:=h
 exact h5.1
theorem Rd.bind_assoc {α β γ:Type} (x:Rd α) (f:α→List (Tok Val)→Rd β) (g:β→List (Tok Val)→Rd γ):(x.bind f).bind g=x.bind fun a r=>(f a r).bind g:=by cases x<;>rfl
theorem Rd.bind_id {α:Type} (x:Rd α) (f:α→α) (h:∀ a,f a=a):(x.bind fun a r=>.ok (f a) r)=x:=by
 cases x with
 | bad e a=>rfl
 | ok a r=>rw [Rd.bind_ok,h]
theorem rdnames_any (m R sz:Nat) (ts:List (Tok Val)) (w:World) (h:RdAt m w R sz ts):
  Calls Tryz.prog 156 #[.pointer (some ⟨R,0,none⟩)] w (RdO m R sz w (fun l v w'=>OwnN w.heap.size v l w') (rList sz ts)):=by
 obtain ⟨i0,hi,hz0,hz1,hz2⟩:=info_parts inStA
 have hlt:=h.lt
 have CE:Hid (Calls Tryz.prog 76 #[.pointer (some ⟨R,0,none⟩),.string ⟨#[40]⟩] w (RdO m R sz w (fun _ _ _=>True) (rExp sz [40] ts))):=expect_any m R sz ts ⟨#[40]⟩ (by decide) w h
 unfold rList
 cases hE:rExp sz [40] ts with
 | bad er a=>
  rw [hE] at CE
  rw [Rd.bind_bad]
  go_enter Tryz.func156,Tryz.ntmps156
  go_wp2_with fail
  refine CE.out.mono ?_
  rintro e w1 ⟨rfl,hF⟩
  exact ⟨rfl,rfl,hF⟩
 | ok uu r1=>
  rw [hE] at CE
  rw [Rd.bind_ok]
  clear h hE
  obtain ⟨RS,hRS⟩:∃ x:Rd (List ByteArray),Hid (((rNms sz r1).bind fun l r'=>(rExp sz [41] r').bind fun _ r''=>Rd.ok l r'')=x):=⟨_,rfl⟩
  rw [hRS.out]
  go_enter Tryz.func156,Tryz.ntmps156
  go_wp2_with fail
  refine CE.out.mono ?_
  rintro e w1 ⟨v1,rfl, -,hA,hF⟩
  have z1:w.heap.size≤w1.heap.size:=hF.size
  have A1:Hid (RdAt m w1 R sz r1):=hA
  have F1:Hid (Fr (fun k=>k=R) w w1):=hF
  have hr1:r1.length≤16384:=hA.many
  clear hA hF CE
  go_wp2
  go_loopw [3] (fun v wr=>∃ (L:List ByteArray) (r:List (Tok Val)),Hid (rNms sz r1=(rNms sz r).bind fun l r'=>.ok (L++l) r')∧Hid (RdAt m wr R sz r)∧Hid (Fr (fun k=>k=R) w wr)∧Hid (OwnN w.heap.size v L wr)∧L.length+r.length≤16384) (fun _ wr=>rdLen R wr)
  case atStart=>exact ⟨[],r1,(Rd.bind_id _ _ (fun a=>rfl)).symm,A1,F1,OwnN.nil _ _,by simpa using hr1⟩
  case round=>
   obtain ⟨L,r,hE,hA,hF,hO,hn⟩:=hrel
   have HL:=hA.out.len
   have hsz:=hF.out.size
   have cC:Hid (Calls Tryz.prog 152 #[.pointer (some ⟨R,0,none⟩)] wr fun e w'=>e=.returned (.bool (clos r))∧w'=wr):=closes_any m R sz r wr hA.out
   cases hcl:clos r with
   | true=>
    rw [hcl] at cC
    have hN:Hid (rNms sz r=.ok [] r):=rNms_end hcl
    go_wp2_with fail
    refine cC.out.mono ?_
    rintro e w2 ⟨rfl,hw2⟩
    obtain rfl:=hw2.symm
    have CE2:Hid (Calls Tryz.prog 76 #[.pointer (some ⟨R,0,none⟩),.string ⟨#[41]⟩] wr (RdO m R sz wr (fun _ _ _=>True) (rExp sz [41] r))):=expect_any m R sz r ⟨#[41]⟩ (by decide) wr hA.out
    have hG:Hid (RS=(rExp sz [41] r).bind fun _ r''=>Rd.ok L r''):=by
     show _=_
     rw [← hRS.out,hE.out,hN.out,Rd.bind_ok,Rd.bind_ok,List.append_nil]
    cases hE2:rExp sz [41] r with
    | bad er a=>
     rw [hE2] at CE2 hG
     clear hE hN cC hcl HL hRS
     go_wp2_with fail
     refine CE2.out.mono ?_
     rintro e w3 ⟨rfl,hF3⟩
     refine ⟨rfl, ?_⟩
     rw [hG.out]
     exact ⟨rfl,hF.out.trans hF3 (fun k e=>Or.inl e)⟩
    | ok u2 r2=>
     rw [hE2] at CE2 hG
     clear hE hN cC hcl HL hRS
     go_wp2_with fail
     refine CE2.out.mono ?_
     rintro e w3 ⟨v3,rfl, -,hA3,hF3⟩
     have F3:Hid (Fr (fun k=>k=R) w w3):=hF.out.trans hF3 (fun k e=>Or.inl e)
     have A3:Hid (RdAt m w3 R sz r2):=hA3
     have O3:Hid (OwnN w.heap.size u3 L w3):=hF3.row hO.out (fun k hk e=>by have:=(World.ownsRow.lt hO.out k hk).1;omega)
     clear hF3 hA3 CE2
     go_wp2
     go_ret
     rw [hG.out]
     exact ⟨_,rfl,O3.out,A3.out,F3.out⟩
   | false=>
    rw [hcl] at cC
    have cM:Hid (Calls Tryz.prog 154 #[.pointer (some ⟨R,0,none⟩)] wr (RdO m R sz wr (fun x v _=>v=.string x) (rName sz r))):=rdname_any m R sz r wr hA.out
    cases hR:rName sz r with
    | bad er a=>
     rw [hR] at cM
     have hG:Hid (RS=Rd.bad er a):=by
      show _=_
      rw [← hRS.out,hE.out,rNms_bad hcl hR,Rd.bind_bad,Rd.bind_bad]
     clear hE hcl HL hR hRS
     go_wp2_with fail
     refine cC.out.mono ?_
     rintro e w2 ⟨rfl,hw2⟩
     obtain rfl:=hw2.symm
     go_wp2_with fail
     refine cM.out.mono ?_
     rintro e w3 ⟨rfl,hF3⟩
     refine ⟨rfl, ?_⟩
     rw [hG.out]
     exact ⟨rfl,hF.out.trans hF3 (fun k e=>Or.inl e)⟩
    | ok X r2=>
     rw [hR] at cM
     have hsh:=rName_shorter hR
     have hE3:Hid (rNms sz r1=(rNms sz r2).bind fun l r'=>.ok ((L++[X])++l) r'):=by
      show _=_
      rw [hE.out,rNms_ok hcl hR,Rd.bind_assoc]
      simp only [Rd.bind_ok,List.append_assoc,List.cons_append,List.nil_append]
     clear hE hcl hR
     go_wp2_with fail
     refine cC.out.mono ?_
     rintro e w2 ⟨rfl,hw2⟩
     obtain rfl:=hw2.symm
     go_wp2_with fail
     refine cM.out.mono ?_
     rintro e w3 ⟨v3,rfl,rfl,hA3,hF3⟩
     have F3:Hid (Fr (fun k=>k=R) w w3):=hF.out.trans hF3 (fun k e=>Or.inl e)
     have A3:Hid (RdAt m w3 R sz r2):=hA3
     have O3:Hid (OwnN w.heap.size u3 L w3):=hF3.row hO.out (fun k hk e=>by have:=(World.ownsRow.lt hO.out k hk).1;omega)
     have HK:Hid (∀ q,u3.ownBlock=some q→w.heap.size≤q):=fun q hq=>(World.ownsRow.lt O3.out q hq).1
     have hsz3:w.heap.size≤w3.heap.size:=F3.out.size
     clear hF3 hA3 cM cC hF hA hO
     go_wp2_with (at_builtin;refine wpList_append_own _ rfl _ _ 22 rfl w.heap.size 9 i0 (.string ByteArray.empty) 1 16 Tryz.underlying22 hi hz0 hz1 hz2 rfl (by decide) _ _ _ rfl (World.ownsRow.alloc O3.out _) ⟨w3.heap.size,0,none⟩ 1 1 [.string X] rfl rfl ?cc1 ?cc2 ?cc3 ?cc4 ?cc5 ?_)
     case cc1=>(intro j u hj;rw [Addr.add_lit];(rcases j with _ | j)<;>simp at hj<;>subst hj<;>simp (maxDischargeDepth:=12) [go_sem])
     case cc2=>(intro u hu;simp at hu;subst hu;rfl)
     case cc3=>unfold maxLen;omega
     case cc4=>omega
     case cc5=>first | omega | (simp;omega)
     intro v' w4 h2 h3 _
     have O4:Hid (OwnN w.heap.size v' (L++[X]) w4):=by
      show w4.ownsRow _ _ _ _ _ _
      rw [List.length_append,List.map_append]
      exact h2
     have F4:Hid (Fr (fun k=>k=R) w w4):=(F3.out.alloc _).grown h3 (fun k e=>Or.inr (HK.out k e))
     have A4:Hid (RdAt m w4 R sz r2):=(A3.out.below ((Below.refl _ _).alloc (Nat.le_refl _) _)).fr (P:=fun k=>w.heap.size≤k) ((Fr.refl _ _).grown h3 (fun k e=>Or.inl (HK.out k e))) (fun k e=>by omega)
     have HL4:=A4.out.len
     clear h2 h3 HK O3
     go_wp2
     exact ⟨⟨L++[X],r2,hE3,A4,F4,O4,by simp;omega⟩,by omega⟩
theorem opWord_any (k:Int) (w:World):Calls Tryz.prog 36 #[.int .i64 k] w fun e w'=>e=.returned (.string ⟨(hdO k).toArray⟩)∧w'=w:=by
 unfold hdO
 by_cases h1:k=1
 ·subst h1
  go_enter Tryz.func36,Tryz.ntmps36
  go_wp2
  go_ret
  exact ⟨rfl,rfl⟩
 by_cases h2:k=2
 ·subst h2
  go_enter Tryz.func36,Tryz.ntmps36
  go_wp2
  go_ret
  exact ⟨rfl,rfl⟩
 by_cases h3:k=3
 ·subst h3
  go_enter Tryz.func36,Tryz.ntmps36
  go_wp2
  go_ret
  exact ⟨rfl,rfl⟩
 by_cases h4:k=4
 ·subst h4
  go_enter Tryz.func36,Tryz.ntmps36
  go_wp2
  go_ret
  exact ⟨rfl,rfl⟩
 by_cases h5:k=5
 ·subst h5
  go_enter Tryz.func36,Tryz.ntmps36
  go_wp2
  go_ret
  exact ⟨rfl,rfl⟩
 by_cases h6:k=6
 ·subst h6
  go_enter Tryz.func36,Tryz.ntmps36
  go_wp2
  go_ret
  exact ⟨rfl,rfl⟩
 rw [if_neg h1,if_neg h2,if_neg h3,if_neg h4,if_neg h5,if_neg h6]
 go_enter Tryz.func36,Tryz.ntmps36
 go_wp2
 go_ret
 exact ⟨rfl,rfl⟩
theorem termHead_any (k:Int) (w:World):Calls Tryz.prog 83 #[.int .i64 k] w fun e w'=>e=.returned (.string ⟨(hdT k).toArray⟩)∧w'=w:=by
 unfold hdT
 by_cases h3:k=3
 ·subst h3
  go_enter Tryz.func83,Tryz.ntmps83
  go_wp2
  go_ret
  exact ⟨rfl,rfl⟩
 by_cases h4:k=4
 ·subst h4
  go_enter Tryz.func83,Tryz.ntmps83
  go_wp2
  go_ret
  exact ⟨rfl,rfl⟩
 by_cases h5:k=5
 ·subst h5
  go_enter Tryz.func83,Tryz.ntmps83
  go_wp2
  go_ret
  exact ⟨rfl,rfl⟩
 rw [if_neg h3,if_neg h4,if_neg h5]
 go_enter Tryz.func83,Tryz.ntmps83
 go_wp2
 go_ret
 exact ⟨rfl,rfl⟩
theorem regexHead_any (k:Int) (w:World):Calls Tryz.prog 84 #[.int .i64 k] w fun e w'=>e=.returned (.string ⟨(hdR k).toArray⟩)∧w'=w:=by
 unfold hdR
 by_cases h1:k=1
 ·subst h1
  go_enter Tryz.func84,Tryz.ntmps84
  go_wp2
  go_ret
  exact ⟨rfl,rfl⟩
 by_cases h2:k=2
 ·subst h2
  go_enter Tryz.func84,Tryz.ntmps84
  go_wp2
  go_ret
  exact ⟨rfl,rfl⟩
 by_cases h3:k=3
 ·subst h3
  go_enter Tryz.func84,Tryz.ntmps84
  go_wp2
  go_ret
  exact ⟨rfl,rfl⟩
 by_cases h4:k=4
 ·subst h4
  go_enter Tryz.func84,Tryz.ntmps84
  go_wp2
  go_ret
  exact ⟨rfl,rfl⟩
 by_cases h5:k=5
 ·subst h5
  go_enter Tryz.func84,Tryz.ntmps84
  go_wp2
  go_ret
  exact ⟨rfl,rfl⟩
 rw [if_neg h1,if_neg h2,if_neg h3,if_neg h4,if_neg h5]
 go_enter Tryz.func84,Tryz.ntmps84
 go_wp2
 go_ret
 exact ⟨rfl,rfl⟩
theorem kindIn_succ (h:Int→List UInt8) (x:List UInt8) (a:Int) (n:Nat):kindIn h x a (n+1)=if h a=x then some a else kindIn h x (a+1) n:=rfl
theorem rOp_eq (sz:Nat) (ts:List (Tok Val)):∃ u,rOp sz ts=(match kindIn hdO (tkH sz ts).x 1 6 with | none=>.bad 70 (tkH sz ts).at_ | some k=>.ok k u)∧(∀ k,kindIn hdO (tkH sz ts).x 1 6=some k→∃ t,ts=t::u):=by
 cases ts with
 | nil=>exact ⟨[],rfl,fun k e=>by have h:kindIn hdO (tkH sz []).x 1 6=none:=rfl;rw [h] at e;cases e⟩
 | cons t r=>exact ⟨r,rfl,fun _ _=>⟨t,rfl⟩⟩
theorem roper_any (m R sz:Nat) (ts:List (Tok Val)) (w:World) (h:RdAt m w R sz ts):
  Calls Tryz.prog 155 #[.pointer (some ⟨R,0,none⟩)] w (RdO m R sz w (fun k v _=>v=.int .i64 k) (rOp sz ts)):=by
 have CN:Hid (∀ W:World,Below w.heap.size w W→Calls Tryz.prog 32 #[.pointer (some ⟨R,0,none⟩)] W (NxO m R sz ts W (.agg #[.int .i64 (tkH sz ts).k,.int .i64 (tkH sz ts).at_,.string (txB (tkH sz ts)),.int .i64 (tkH sz ts).v.k,.int .i64 (tkH sz ts).v.n,.int .i64 (tkH sz ts).v.d,.string (tkH sz ts).v.s]))):=fun W hW=>next_at m R sz ts W (h.below hW)
 have hlt:=h.lt
 obtain ⟨u,hu,hT⟩:=rOp_eq sz ts
 have hxx:Hid (∀ k,(⟨(hdO k).toArray⟩:ByteArray).toList=hdO k):=fun k=>by rw [toList_data]
 have htx:(txB (tkH sz ts)).toList=(tkH sz ts).x:=by rw [toList_data];rfl
 obtain ⟨RS,hRS⟩:∃ x:Rd Int,Hid (rOp sz ts=x):=⟨_,rfl⟩
 rw [hRS.out]
 rw [hRS.out] at hu
 have HU:Hid (RS=(match kindIn hdO (tkH sz ts).x 1 6 with | none=>Rd.bad 70 (tkH sz ts).at_ | some k=>Rd.ok k u)):=hu
 clear hRS hu
 obtain ⟨xx,hx9⟩:∃ l:List UInt8,Hid ((tkH sz ts).x=l):=⟨_,rfl⟩
 rw [hx9.out] at HU hT htx
 clear hx9
 generalize (tkH sz ts).k=tk at*
 generalize (tkH sz ts).at_=ta at*
 generalize txB (tkH sz ts)=tx at*
 generalize (tkH sz ts).v.k=vk at*
 generalize (tkH sz ts).v.n=vn at*
 generalize (tkH sz ts).v.d=vd at*
 generalize (tkH sz ts).v.s=vs at*
 go_enter Tryz.func155,Tryz.ntmps155
 go_wp2_with fail
 refine (CN.out _ (by go_grown)).mono ?_
 rintro e w1 ⟨rfl,hF,hN⟩
 have F1:Hid (Fr (fun k=>k=R) w w1):=hF
 have N1:Hid (∀ t r,ts=t::r→RdAt m w1 R sz r):=hN
 clear hF hN CN
 go_upto_region 2 with fail
 refine wp_world ?_
 intro W2 hW2
 have V2:Hid (BlkT W2 w1.heap.size tk ta tx vk vn vd vs):=by rw [hW2];constructor<;>simp (maxDischargeDepth:=16) [go_sem]
 have F2:Hid (Fr (fun k=>k=R) w W2):=by rw [hW2];exact F1.out.alloc _
 have A2:Hid (∀ t r,ts=t::r→RdAt m W2 R sz r):=fun t r e=>by rw [hW2];exact (N1.out t r e).below ((Below.refl w1.heap.size w1).alloc (Nat.le_refl _) _)
 have hn1:w1.heap.size<W2.heap.size:=by rw [hW2];simp
 clear hW2 F1 N1
 generalize w1.heap.size=n1 at*
 go_wp2
 go_loopw [4] (fun v wr=>∃ (i:Nat),v=.int .i64 ((i:Int)+1)∧i≤6∧Hid (kindIn hdO xx 1 6=kindIn hdO xx ((i:Int)+1) (6 - i))∧Hid (Below W2.heap.size W2 wr)) (fun v _=>8 - (intOf v).toNat)
 case atStart=>exact ⟨0,by simp,by omega,rfl,Below.refl _ _⟩
 case round=>
  obtain ⟨i,rfl,hi,hK,hB⟩:=hrel
  have V3:Hid (BlkT wr n1 tk ta tx vk vn vd vs):=V2.out.below hB.out hn1
  obtain ⟨v0,v1,v2,v3,v4,v5,v6, -, -, -, -, -, -, -⟩:=V3.out
  have F3:Hid (Fr (fun k=>k=R) w wr):=F2.out.trans (Fr.of_below (P:=fun _=>False) hB.out) (fun _ q=>q.elim)
  have A3:Hid (∀ t r,ts=t::r→RdAt m wr R sz r):=fun t r e=>(A2.out t r e).below hB.out
  by_cases h6:i<6
  case neg=>
   have c1:¬ (i:Int)+1≤6:=by omega
   have hG:Hid (RS=Rd.bad 70 ta):=by
    show _=_
    have e:i=6:=by omega
    rw [HU.out,hK.out,e]
    rfl
   clear hK HU A3 hT
   go_wp2_with fail
   refine (misplaced_at _ _ _ _ _ _ _ _).mono ?_
   rintro e w3 ⟨rfl,hb3⟩
   have F4:Fr (fun k=>k=R) w w3:=F3.out.trans (Fr.of_below (P:=fun _=>False) hb3) (fun _ q=>q.elim)
   go_wp2
   refine ⟨rfl, ?_⟩
   rw [hG.out]
   exact ⟨rfl,F4⟩
  have c1:(i:Int)+1≤6:=by omega
  have c2:Hid (∀ W:World,Calls Tryz.prog 36 #[.int .i64 ((i:Int)+1)] W fun e w'=>e=.returned (.string ⟨(hdO ((i:Int)+1)).toArray⟩)∧w'=W):=fun W=>opWord_any _ W
  have e1:(⟨(hdO ((i:Int)+1)).toArray⟩:ByteArray).toList=hdO ((i:Int)+1):=hxx.out _
  have hK2:Hid (kindIn hdO xx 1 6=if hdO ((i:Int)+1)=xx then some ((i:Int)+1) else kindIn hdO xx ((i:Int)+1+1) (6 - (i+1))):=by
   show _=_
   rw [hK.out]
   have e:6 - i=(6 - (i+1))+1:=by omega
   rw [e,kindIn_succ]
  clear hK
  generalize (⟨(hdO ((i:Int)+1)).toArray⟩:ByteArray)=ww at*
  by_cases hq:hdO ((i:Int)+1)=xx
  case pos=>
   rw [if_pos hq] at hK2
   obtain ⟨t,ht⟩:=hT _ hK2.out
   have hG:Hid (RS=Rd.ok ((i:Int)+1) u):=by
    show _=_
    rw [HU.out,hK2.out]
   have A4:Hid (RdAt m wr R sz u):=A3.out t u ht
   have q1:(ww.toList==tx.toList)=true:=by rw [e1,htx,hq];simp
   clear hK2 HU A3 hT ht hq e1 htx
   go_upto_region 5 with fail
   go_region_with (go_at_call 36;refine (c2.out _).mono ?_;rintro e w3 ⟨rfl,hw3⟩;obtain rfl:=hw3.symm)
   all_goals
    go_wp2
    go_ret
    rw [hG.out]
    exact ⟨_,rfl,rfl,A4.out.below (by go_grown),F3.out.trans (Fr.of_below (P:=fun _=>False) (by go_grown)) (fun _ q=>q.elim)⟩
  case neg=>
   rw [if_neg hq] at hK2
   have q1:(ww.toList==tx.toList)=false:=by rw [e1,htx];simpa using hq
   clear A3 hq e1 htx
   go_upto_region 5 with fail
   go_region_with (go_at_call 36;refine (c2.out _).mono ?_;rintro e w3 ⟨rfl,hw3⟩;obtain rfl:=hw3.symm)
   all_goals
    go_wp2
    exact ⟨⟨i+1,by go_num,by omega,hK2,hB.out.trans (Below.mono (B:=wr.heap.size) (by go_grown) hB.out.size)⟩,by simp [intOf];omega⟩
def Shr {α:Type} (p:List (Tok Val)→Rd α):Prop:=∀ ts a r,p ts=.ok a r→r.length+1≤ts.length
theorem shr_T (sz n:Nat) (d:Int):Shr (pT sz n d):=by
 intro ts a r h
 have h1:=sh_T sz n d ts a r h
 cases ts with
 | nil=>cases n<;>cases h
 | cons t l=>simp at h1 ⊢;omega
theorem shr_FR (sz n:Nat) (d:Int):Shr ((pFR sz n).1 d)∧Shr ((pFR sz n).2 d):=by
 constructor
 ·intro ts a r h
  have h1:=(sh_FR sz n).1 d ts a r h
  cases ts with
  | nil=>cases n<;>cases h
  | cons t l=>simp at h1 ⊢;omega
 ·intro ts a r h
  have h1:=(sh_FR sz n).2 d ts a r h
  cases ts with
  | nil=>cases n<;>cases h
  | cons t l=>simp at h1 ⊢;omega
theorem rMany_go {α:Type} {p:List (Tok Val)→Rd α} {more:Bool} {n k:Nat} {ts:List (Tok Val)} (h:0<k∨(more=true∧clos ts=false)):rMany p more (n+1) k ts=(p ts).bind fun a r=>(rMany p more n (k - 1) r).bind fun l r'=>.ok (a::l) r':=by rw [rMany,if_pos h]
theorem rMany_end {α:Type} {p:List (Tok Val)→Rd α} {more:Bool} {n k:Nat} {ts:List (Tok Val)} (h:¬ (0<k∨(more=true∧clos ts=false))):rMany p more (n+1) k ts=.ok [] ts:=by rw [rMany,if_neg h]
def TmV (W:World) (t:Tm) (v:Value) (w':World):Prop:=∃ u,v=.agg #[.int .i64 t.k,.string t.nm,.int .i64 t.v.k,.int .i64 t.v.n,.int .i64 t.v.d,.string t.v.s,u]∧TmsOwn (fun q=>W.heap.size≤q) w' u t.subs∧t.v.Fits
theorem terms_step (m R sz N:Nat) (d:Int) (pt:List (Tok Val)→Rd Tm) (hsh:Shr pt) (HT:∀ (ts:List (Tok Val)) (W:World),ts.length≤N→RdAt m W R sz ts→Calls Tryz.prog 153 #[.pointer (some ⟨R,0,none⟩),.int .i64 d] W (RdO m R sz W (TmV W) (pt ts))) (more:Bool) (n k:Nat) (ts:List (Tok Val)) (w:World) (hN:ts.length≤N) (hn:ts.length<n) (h:RdAt m w R sz ts):
  Calls Tryz.prog 120 #[.pointer (some ⟨R,0,none⟩),.int .i64 k,.bool more,.int .i64 d] w (RdO m R sz w (fun l v w'=>TmsOwn (fun q=>w.heap.size≤q) w' v l) (rMany pt more n k ts)):=by
 obtain ⟨i0,hi,hz0,hz1,hz2⟩:=info_parts inTmA
 have hlt:=h.lt
 have HT9:Hid (∀ (ts:List (Tok Val)) (W:World),ts.length≤N→RdAt m W R sz ts→Calls Tryz.prog 153 #[.pointer (some ⟨R,0,none⟩),.int .i64 d] W (RdO m R sz W (TmV W) (pt ts))):=HT
 have HSH:Hid (Shr pt):=hsh
 obtain ⟨RS,hRS⟩:∃ x:Rd (List Tm),Hid (rMany pt more n k ts=x):=⟨_,rfl⟩
 rw [hRS.out]
 have A0:Hid (RdAt m w R sz ts):=h
 have hmn:=h.many
 clear h HT hsh
 go_enter Tryz.func120,Tryz.ntmps120
 go_wp2
 go_loopw [9] (fun v wr=>∃ (L:List (Tm×Value)) (r:List (Tok Val)) (n':Nat),Hid (rMany pt more n k ts=(rMany pt more n' (k - L.length) r).bind fun l r'=>.ok (L.map Prod.fst++l) r')∧r.length<n'∧L.length+r.length≤ts.length∧Hid (RdAt m wr R sz r)∧Hid (Fr (fun k=>k=R) w wr)∧Hid (wr.ownsRow w.heap.size 41 7 v L.length (flatTm L))∧Hid (∀ x∈L,x.1.v.Fits∧TmsOwn (fun q=>w.heap.size≤q∧v.ownBlock≠some q) wr x.2 x.1.subs)) (fun _ wr=>rdLen R wr)
 case atStart=>exact ⟨[],ts,n,(Rd.bind_id _ _ (fun a=>rfl)).symm,hn,by simp,A0,Fr.refl _ _,⟨rfl,.inl ⟨rfl,rfl⟩⟩,fun x hx=>by simp at hx⟩
 case round=>
  obtain ⟨L,r,n',hE,hr,hLr,hA,hF,hO,hS⟩:=hrel
  have HL:=hA.out.len
  have hsz:=hF.out.size
  obtain ⟨n2,rfl⟩:∃ n2,n'=n2+1:=⟨n' - 1,by omega⟩
  have HK:Hid (∀ q,u9.ownBlock=some q→w.heap.size≤q):=fun q hq=>(World.ownsRow.lt hO.out q hq).1
  have HKw:Hid (∀ q,u9.ownBlock=some q→q<wr.heap.size):=fun q hq=>own_lt hO.out hq
  obtain ⟨p9,c9,rfl⟩:=row_form hO.out
  have cC:Hid (Calls Tryz.prog 152 #[.pointer (some ⟨R,0,none⟩)] wr fun e w'=>e=.returned (.bool (clos r))∧w'=wr):=closes_any m R sz r wr hA.out
  have cT:Hid (Calls Tryz.prog 153 #[.pointer (some ⟨R,0,none⟩),.int .i64 d] wr (RdO m R sz wr (TmV wr) (pt r))):=HT9.out r wr (by omega) hA.out
  by_cases hgo:0<k - L.length∨(more=true∧clos r=false)
  case neg=>
   have hG:Hid (RS=.ok (L.map Prod.fst) r):=by
    show _=_
    rw [← hRS.out,hE.out,rMany_end hgo,Rd.bind_ok,List.append_nil]
   have hO9:Hid (TmsOwn (fun q=>w.heap.size≤q) wr (.slice p9 L.length c9) (L.map Prod.fst)):=by
    have ho:=hO.out
    refine .mk L rfl (by simp;omega) (fun x hx=>(hS.out x hx).1) ?_ (fun q hq=>(World.ownsRow.lt ho q hq).1) (fun x hx=>(hS.out x hx).2.mono fun q hq _=>hq.1)
    rw [List.length_map]
    exact own_monoB ho (Nat.zero_le _)
   have g1:¬ (L.length:Int)<(k:Int):=by omega
   clear hE cT HT9 hS hRS hO HL
   cases hm:more with
   | false=>
    subst hm
    go_wp2
    go_ret
    rw [hG.out]
    exact ⟨_,rfl,hO9.out,hA.out,hF.out⟩
   | true=>
    subst hm
    have hcl:clos r=true:=by
     cases hc:clos r with
     | true=>rfl
     | false=>exact absurd (Or.inr ⟨rfl,hc⟩) hgo
    rw [hcl] at cC
    clear hgo hcl
    go_wp2_with fail
    refine cC.out.mono ?_
    rintro e w2 ⟨rfl,hw2⟩
    obtain rfl:=hw2.symm
    clear cC
    go_wp2
    go_ret
    rw [hG.out]
    exact ⟨_,rfl,hO9.out,hA.out,hF.out⟩
  have hstep:Hid (rMany pt more (n2+1) (k - L.length) r=(pt r).bind fun a r=>(rMany pt more n2 (k - L.length - 1) r).bind fun l r'=>.ok (a::l) r'):=rMany_go hgo
  have hcases:(L.length:Int)<(k:Int)∨(¬ (L.length:Int)<(k:Int)∧more=true∧clos r=false):=by
   rcases hgo with h | h
   ·exact Or.inl (by omega)
   ·by_cases h2:(L.length:Int)<(k:Int)
    ·exact Or.inl h2
    ·exact Or.inr ⟨h2,h⟩
  clear hgo
  cases hP:pt r with
  | bad er a=>
   rw [hP] at cT
   have hG:Hid (RS=.bad er a):=by
    show _=_
    rw [← hRS.out,hE.out,hstep.out,hP,Rd.bind_bad,Rd.bind_bad]
   clear hE hstep hP hRS HT9 hS hO HL HSH
   rcases hcases with g1 | ⟨g1,hm,hcl⟩
   ·clear cC
    go_wp2_with fail
    refine cT.out.mono ?_
    rintro e w3 ⟨rfl,hF3⟩
    refine ⟨rfl, ?_⟩
    rw [hG.out]
    exact ⟨rfl,hF.out.trans hF3 (fun k e=>Or.inl e)⟩
   ·subst hm
    rw [hcl] at cC
    clear hcl
    go_wp2_with fail
    refine cC.out.mono ?_
    rintro e w2 ⟨rfl,hw2⟩
    obtain rfl:=hw2.symm
    clear cC
    go_wp2_with fail
    refine cT.out.mono ?_
    rintro e w3 ⟨rfl,hF3⟩
    refine ⟨rfl, ?_⟩
    rw [hG.out]
    exact ⟨rfl,hF.out.trans hF3 (fun k e=>Or.inl e)⟩
  | ok tt r2=>
   rw [hP] at cT
   have hsh2:=HSH.out r tt r2 hP
   have hE3:Hid (∀ u:Value,rMany pt more n k ts=(rMany pt more n2 (k - (L++[(tt,u)]).length) r2).bind fun l r'=>.ok ((L++[(tt,u)]).map Prod.fst++l) r'):=fun u=>by
    rw [hE.out,hstep.out,hP,Rd.bind_ok,Rd.bind_assoc]
    have e:k - L.length - 1=k - (L++[(tt,u)]).length:=by simp;omega
    rw [e]
    simp only [Rd.bind_ok,List.map_append,List.map_cons,List.map_nil,List.append_assoc,List.cons_append,List.nil_append]
   clear hE hstep hP
   have REST:Hid (∀ w3 u,TmV wr tt u w3→RdAt m w3 R sz r2→Fr (fun k=>k=R) wr w3→True):=fun _ _ _ _ _=>trivial
   rcases hcases with g1 | ⟨g1,hm,hcl⟩
   ·clear cC
    go_wp2_with fail
    refine cT.out.mono ?_
    rintro e w3 ⟨v3,rfl,⟨u3,rfl,hT3,hTF⟩,hA3,hF3⟩
    obtain ⟨pu,cu,rfl, -⟩:=hT3.at.form
    have F3:Hid (Fr (fun k=>k=R) w w3):=hF.out.trans hF3 (fun k e=>Or.inl e)
    have A3:Hid (RdAt m w3 R sz r2):=hA3
    have G3:Hid (Fr (fun k=>k=R) wr w3):=hF3
    have O3:Hid (w3.ownsRow w.heap.size 41 7 (.slice p9 L.length c9) L.length (flatTm L)):=hF3.row hO.out (fun k hk e=>by have:=HK.out k hk;omega)
    have hsz3:wr.heap.size≤w3.heap.size:=hF3.size
    have HT3:Hid (TmsOwn (fun q=>wr.heap.size≤q) w3 (.slice pu tt.subs.length cu) tt.subs):=hT3
    have HTF:Hid (tt.v.Fits):=hTF
    have hcs:Hid (∀ u,flatTm [(tt,u)]=[.int .i64 tt.k,.string tt.nm,.int .i64 tt.v.k,.int .i64 tt.v.n,.int .i64 tt.v.d,.string tt.v.s,u]):=fun u=>rfl
    clear hF3 hA3 hT3 hTF cT hF hA hO REST
    generalize tt.k=tk at*
    generalize tt.nm=nm at*
    generalize tt.v.k=vk at*
    generalize tt.v.n=vn at*
    generalize tt.v.d=vd at*
    generalize tt.v.s=vs at*
    generalize tt.subs.length=nu at*
    go_wp2_with (at_builtin;refine wpList_append_own_at _ rfl _ _ 23 rfl w.heap.size 41 i0 (.agg #[.int .i64 0,.string ByteArray.empty,.int .i64 0,.int .i64 0,.int .i64 0,.string ByteArray.empty,.slice none 0 0]) 7 88 Tryz.underlying23 hi hz0 hz1 hz2 rfl (by decide) _ _ _ rfl (World.ownsRow.alloc O3.out _) ⟨w3.heap.size,0,none⟩ 1 1 [.int .i64 tk,.string nm,.int .i64 vk,.int .i64 vn,.int .i64 vd,.string vs,.slice pu nu cu] rfl rfl ?cc1 ?cc2 ?cc3 ?cc4 ?cc5 ?_)
    case cc1=>(intro j u hj;rw [Addr.add_lit];(rcases j with _ | _ | _ | _ | _ | _ | _ | j)<;>simp at hj<;>subst hj<;>simp (maxDischargeDepth:=12) [go_sem])
    case cc2=>first | rfl | (intro u hu;simp at hu;rcases hu with rfl | rfl | rfl | rfl | rfl | rfl | rfl<;>rfl)
    case cc3=>unfold maxLen;omega
    case cc4=>omega
    case cc5=>first | omega | (simp;omega)
    intro v' w4 h2 h3 _ h5
    have O4:Hid (w4.ownsRow w.heap.size 41 7 v' (L++[(tt,Value.slice pu nu cu)]).length (flatTm (L++[(tt,.slice pu nu cu)]))):=by
     unfold Hid
     rw [flatTm_append,hcs.out,List.length_append]
     exact h2
    have F4:Hid (Fr (fun k=>k=R) w w4):=(F3.out.alloc _).grown h3 (fun k e=>Or.inr (HK.out k e))
    have A4:Hid (RdAt m w4 R sz r2):=(A3.out.below ((Below.refl _ _).alloc (Nat.le_refl _) _)).fr (P:=fun k=>w.heap.size≤k) ((Fr.refl _ _).grown h3 (fun k e=>Or.inl (HK.out k e))) (fun k e=>by omega)
    have HL4:=A4.out.len
    have blk:Hid (∀ q,q<w3.heap.size→(Value.slice p9 L.length c9).ownBlock≠some q→w4.heap[q]? =w3.heap[q]?):=fun q hq hne=>(h3.block q (by simp;omega) (fun h=>hne h.symm)).trans (Below.heap_alloc _ _ q hq)
    have h50:v'.ownBlock=(Value.slice p9 L.length c9).ownBlock∨v'.ownBlock=some (w3.heap.size+1):=by simpa using h5
    have h5':Hid (v'.ownBlock=(Value.slice p9 L.length c9).ownBlock∨v'.ownBlock=some (w3.heap.size+1)):=h50
    have S4:Hid (∀ x∈L++[(tt,.slice pu nu cu)],x.1.v.Fits∧TmsOwn (fun q=>w.heap.size≤q∧v'.ownBlock≠some q) w4 x.2 x.1.subs):=fun x hx=>by
     rcases List.mem_append.1 hx with hx | hx
     ·obtain ⟨a,b⟩:=hS.out x hx
      refine ⟨a,((b.mono (P':=fun q=>(w.heap.size≤q∧(Value.slice p9 L.length c9).ownBlock≠some q)∧q<wr.heap.size) fun q h1 h2=>⟨h1,h2⟩).keep (w':=w4) fun q h1 h2=> ?_).mono fun q h1 _=>⟨h1.1.1, ?_⟩⟩
      ·exact (blk.out q (by omega) h1.1.2).trans (G3.out.block q h1.2 (fun e=>by omega))
      ·rcases h5'.out with h5 | h5
       ·rw [h5];exact h1.1.2
       ·rw [h5];intro h;injection h with h;omega
     ·simp only [List.mem_singleton] at hx
      subst hx
      refine ⟨HTF.out,((HT3.out.mono (P':=fun q=>wr.heap.size≤q∧q<w3.heap.size) fun q h1 h2=>⟨h1,h2⟩).keep (w':=w4) fun q h1 h2=> ?_).mono fun q h1 _=>⟨by omega, ?_⟩⟩
      ·exact blk.out q h2 (fun h=>by have:=HKw.out q h;omega)
      ·rcases h5'.out with h5 | h5
       ·rw [h5];intro h;have:=HKw.out q h;omega
       ·rw [h5];intro h;injection h with h;omega
    clear h2 h3 h5 h50 HK O3 hS blk HT3 h5' HKw hcs HT9
    go_wp2
    exact ⟨⟨L++[(tt,.slice pu nu cu)],r2,n2,hE3.out _,by omega,by simp;omega,A4,F4,O4,S4⟩,by omega⟩
   ·subst hm
    rw [hcl] at cC
    clear hcl
    go_wp2_with fail
    refine cC.out.mono ?_
    rintro e w2 ⟨rfl,hw2⟩
    obtain rfl:=hw2.symm
    clear cC
    go_wp2_with fail
    refine cT.out.mono ?_
    rintro e w3 ⟨v3,rfl,⟨u3,rfl,hT3,hTF⟩,hA3,hF3⟩
    obtain ⟨pu,cu,rfl, -⟩:=hT3.at.form
    have F3:Hid (Fr (fun k=>k=R) w w3):=hF.out.trans hF3 (fun k e=>Or.inl e)
    have A3:Hid (RdAt m w3 R sz r2):=hA3
    have G3:Hid (Fr (fun k=>k=R) wr w3):=hF3
    have O3:Hid (w3.ownsRow w.heap.size 41 7 (.slice p9 L.length c9) L.length (flatTm L)):=hF3.row hO.out (fun k hk e=>by have:=HK.out k hk;omega)
    have hsz3:wr.heap.size≤w3.heap.size:=hF3.size
    have HT3:Hid (TmsOwn (fun q=>wr.heap.size≤q) w3 (.slice pu tt.subs.length cu) tt.subs):=hT3
    have HTF:Hid (tt.v.Fits):=hTF
    have hcs:Hid (∀ u,flatTm [(tt,u)]=[.int .i64 tt.k,.string tt.nm,.int .i64 tt.v.k,.int .i64 tt.v.n,.int .i64 tt.v.d,.string tt.v.s,u]):=fun u=>rfl
    clear hF3 hA3 hT3 hTF cT hF hA hO REST
    generalize tt.k=tk at*
    generalize tt.nm=nm at*
    generalize tt.v.k=vk at*
    generalize tt.v.n=vn at*
    generalize tt.v.d=vd at*
    generalize tt.v.s=vs at*
    generalize tt.subs.length=nu at*
    go_wp2_with (at_builtin;refine wpList_append_own_at _ rfl _ _ 23 rfl w.heap.size 41 i0 (.agg #[.int .i64 0,.string ByteArray.empty,.int .i64 0,.int .i64 0,.int .i64 0,.string ByteArray.empty,.slice none 0 0]) 7 88 Tryz.underlying23 hi hz0 hz1 hz2 rfl (by decide) _ _ _ rfl (World.ownsRow.alloc O3.out _) ⟨w3.heap.size,0,none⟩ 1 1 [.int .i64 tk,.string nm,.int .i64 vk,.int .i64 vn,.int .i64 vd,.string vs,.slice pu nu cu] rfl rfl ?cc1 ?cc2 ?cc3 ?cc4 ?cc5 ?_)
    case cc1=>(intro j u hj;rw [Addr.add_lit];(rcases j with _ | _ | _ | _ | _ | _ | _ | j)<;>simp at hj<;>subst hj<;>simp (maxDischargeDepth:=12) [go_sem])
    case cc2=>first | rfl | (intro u hu;simp at hu;rcases hu with rfl | rfl | rfl | rfl | rfl | rfl | rfl<;>rfl)
    case cc3=>unfold maxLen;omega
    case cc4=>omega
    case cc5=>first | omega | (simp;omega)
    intro v' w4 h2 h3 _ h5
    have O4:Hid (w4.ownsRow w.heap.size 41 7 v' (L++[(tt,Value.slice pu nu cu)]).length (flatTm (L++[(tt,.slice pu nu cu)]))):=by
     unfold Hid
     rw [flatTm_append,hcs.out,List.length_append]
     exact h2
    have F4:Hid (Fr (fun k=>k=R) w w4):=(F3.out.alloc _).grown h3 (fun k e=>Or.inr (HK.out k e))
    have A4:Hid (RdAt m w4 R sz r2):=(A3.out.below ((Below.refl _ _).alloc (Nat.le_refl _) _)).fr (P:=fun k=>w.heap.size≤k) ((Fr.refl _ _).grown h3 (fun k e=>Or.inl (HK.out k e))) (fun k e=>by omega)
    have HL4:=A4.out.len
    have blk:Hid (∀ q,q<w3.heap.size→(Value.slice p9 L.length c9).ownBlock≠some q→w4.heap[q]? =w3.heap[q]?):=fun q hq hne=>(h3.block q (by simp;omega) (fun h=>hne h.symm)).trans (Below.heap_alloc _ _ q hq)
    have h50:v'.ownBlock=(Value.slice p9 L.length c9).ownBlock∨v'.ownBlock=some (w3.heap.size+1):=by simpa using h5
    have h5':Hid (v'.ownBlock=(Value.slice p9 L.length c9).ownBlock∨v'.ownBlock=some (w3.heap.size+1)):=h50
    have S4:Hid (∀ x∈L++[(tt,.slice pu nu cu)],x.1.v.Fits∧TmsOwn (fun q=>w.heap.size≤q∧v'.ownBlock≠some q) w4 x.2 x.1.subs):=fun x hx=>by
     rcases List.mem_append.1 hx with hx | hx
     ·obtain ⟨a,b⟩:=hS.out x hx
      refine ⟨a,((b.mono (P':=fun q=>(w.heap.size≤q∧(Value.slice p9 L.length c9).ownBlock≠some q)∧q<wr.heap.size) fun q h1 h2=>⟨h1,h2⟩).keep (w':=w4) fun q h1 h2=> ?_).mono fun q h1 _=>⟨h1.1.1, ?_⟩⟩
      ·exact (blk.out q (by omega) h1.1.2).trans (G3.out.block q h1.2 (fun e=>by omega))
      ·rcases h5'.out with h5 | h5
       ·rw [h5];exact h1.1.2
       ·rw [h5];intro h;injection h with h;omega
     ·simp only [List.mem_singleton] at hx
      subst hx
      refine ⟨HTF.out,((HT3.out.mono (P':=fun q=>wr.heap.size≤q∧q<w3.heap.size) fun q h1 h2=>⟨h1,h2⟩).keep (w':=w4) fun q h1 h2=> ?_).mono fun q h1 _=>⟨by omega, ?_⟩⟩
      ·exact blk.out q h2 (fun h=>by have:=HKw.out q h;omega)
      ·rcases h5'.out with h5 | h5
       ·rw [h5];intro h;have:=HKw.out q h;omega
       ·rw [h5];intro h;injection h with h;omega
    clear h2 h3 h5 h50 HK O3 hS blk HT3 h5' HKw hcs HT9
    go_wp2
    exact ⟨⟨L++[(tt,.slice pu nu cu)],r2,n2,hE3.out _,by omega,by simp;omega,A4,F4,O4,S4⟩,by omega⟩
def FmV (W:World) (f:Fm) (v:Value) (w':World):Prop:=∃ q:FQ,v=.agg #[.int .i64 f.k,.string f.nm,.int .i64 f.op,q.v,q.t,.int .i64 f.lo,.int .i64 f.hi,.bool f.opn,q.s,q.r]∧QOwn (fun q=>W.heap.size≤q) w' (f,q)
def RxV (W:World) (x:Rx) (v:Value) (w':World):Prop:=∃ a b:Value,v=.agg #[.int .i64 x.k,a,b]∧FmsOwn (fun q=>W.heap.size≤q) w' a x.test∧RxsOwn (fun q=>W.heap.size≤q) w' b x.subs
theorem inFmQ:(Tryz.prog.info? 29).map (fun i=>(i.zero,i.size,i.bytes))=some (some (.agg #[.int .i64 0,.string ByteArray.empty,.int .i64 0,.slice none 0 0,.slice none 0 0,.int .i64 0,.int .i64 0,.bool false,.slice none 0 0,.slice none 0 0]),10,152):=by kernel_rfl
theorem inRxQ:(Tryz.prog.info? 91).map (fun i=>(i.zero,i.size,i.bytes))=some (some (.agg #[.int .i64 0,.slice none 0 0,.slice none 0 0]),3,56):=by kernel_rfl
theorem formulas_step (m R sz N:Nat) (d:Int) (pt:List (Tok Val)→Rd Fm) (hsh:Shr pt) (HT:∀ (ts:List (Tok Val)) (W:World),ts.length≤N→RdAt m W R sz ts→Calls Tryz.prog 31 #[.pointer (some ⟨R,0,none⟩),.int .i64 d] W (RdO m R sz W (FmV W) (pt ts))) (more:Bool) (n k:Nat) (ts:List (Tok Val)) (w:World) (hN:ts.length≤N) (hn:ts.length<n) (h:RdAt m w R sz ts):
  Calls Tryz.prog 159 #[.pointer (some ⟨R,0,none⟩),.int .i64 k,.bool more,.int .i64 d] w (RdO m R sz w (fun l v w'=>FmsOwn (fun q=>w.heap.size≤q) w' v l) (rMany pt more n k ts)):=by
 obtain ⟨i0,hi,hz0,hz1,hz2⟩:=info_parts inFmQ
 have hlt:=h.lt
 have HT9:Hid (∀ (ts:List (Tok Val)) (W:World),ts.length≤N→RdAt m W R sz ts→Calls Tryz.prog 31 #[.pointer (some ⟨R,0,none⟩),.int .i64 d] W (RdO m R sz W (FmV W) (pt ts))):=HT
 have HSH:Hid (Shr pt):=hsh
 obtain ⟨RS,hRS⟩:∃ x:Rd (List Fm),Hid (rMany pt more n k ts=x):=⟨_,rfl⟩
 rw [hRS.out]
 have A0:Hid (RdAt m w R sz ts):=h
 have hmn:=h.many
 clear h HT hsh
 go_enter Tryz.func159,Tryz.ntmps159
 go_wp2
 go_loopw [9] (fun v wr=>∃ (L:List (Fm×FQ)) (r:List (Tok Val)) (n':Nat),Hid (rMany pt more n k ts=(rMany pt more n' (k - L.length) r).bind fun l r'=>.ok (L.map Prod.fst++l) r')∧r.length<n'∧L.length+r.length≤ts.length∧Hid (RdAt m wr R sz r)∧Hid (Fr (fun k=>k=R) w wr)∧Hid (wr.ownsRow w.heap.size 29 10 v L.length (flatF L))∧Hid (∀ x∈L,QOwn (fun q=>w.heap.size≤q∧v.ownBlock≠some q) wr x)) (fun _ wr=>rdLen R wr)
 case atStart=>exact ⟨[],ts,n,(Rd.bind_id _ _ (fun a=>rfl)).symm,hn,by simp,A0,Fr.refl _ _,⟨rfl,.inl ⟨rfl,rfl⟩⟩,fun x hx=>by simp at hx⟩
 case round=>
  obtain ⟨L,r,n',hE,hr,hLr,hA,hF,hO,hS⟩:=hrel
  have HL:=hA.out.len
  have hsz:=hF.out.size
  obtain ⟨n2,rfl⟩:∃ n2,n'=n2+1:=⟨n' - 1,by omega⟩
  have HK:Hid (∀ q,u9.ownBlock=some q→w.heap.size≤q):=fun q hq=>(World.ownsRow.lt hO.out q hq).1
  have HKw:Hid (∀ q,u9.ownBlock=some q→q<wr.heap.size):=fun q hq=>own_lt hO.out hq
  obtain ⟨p9,c9,rfl⟩:=row_form hO.out
  have cC:Hid (Calls Tryz.prog 152 #[.pointer (some ⟨R,0,none⟩)] wr fun e w'=>e=.returned (.bool (clos r))∧w'=wr):=closes_any m R sz r wr hA.out
  have cT:Hid (Calls Tryz.prog 31 #[.pointer (some ⟨R,0,none⟩),.int .i64 d] wr (RdO m R sz wr (FmV wr) (pt r))):=HT9.out r wr (by omega) hA.out
  by_cases hgo:0<k - L.length∨(more=true∧clos r=false)
  case neg=>
   have hG:Hid (RS=.ok (L.map Prod.fst) r):=by
    show _=_
    rw [← hRS.out,hE.out,rMany_end hgo,Rd.bind_ok,List.append_nil]
   have hO9:Hid (FmsOwn (fun q=>w.heap.size≤q) wr (.slice p9 L.length c9) (L.map Prod.fst)):=by
    have ho:=hO.out
    have hS2:∀ x∈L,QOwn (fun q=>w.heap.size≤q) wr x:=fun x hx=>(hS.out x hx).mono fun q hq _=>hq.1
    refine .mk L rfl (by simp;omega) ?_ (fun q hq=>(World.ownsRow.lt ho q hq).1) (fun x hx=>(hS2 x hx).1) (fun x hx=>(hS2 x hx).2.1) (fun x hx=>(hS2 x hx).2.2.1) (fun x hx=>(hS2 x hx).2.2.2)
    rw [List.length_map]
    exact own_monoB ho (Nat.zero_le _)
   have g1:¬ (L.length:Int)<(k:Int):=by omega
   clear hE cT HT9 hS hRS hO HL
   cases hm:more with
   | false=>
    subst hm
    go_wp2
    go_ret
    rw [hG.out]
    exact ⟨_,rfl,hO9.out,hA.out,hF.out⟩
   | true=>
    subst hm
    have hcl:clos r=true:=by
     cases hc:clos r with
     | true=>rfl
     | false=>exact absurd (Or.inr ⟨rfl,hc⟩) hgo
    rw [hcl] at cC
    clear hgo hcl
    go_wp2_with fail
    refine cC.out.mono ?_
    rintro e w2 ⟨rfl,hw2⟩
    obtain rfl:=hw2.symm
    clear cC
    go_wp2
    go_ret
    rw [hG.out]
    exact ⟨_,rfl,hO9.out,hA.out,hF.out⟩
  have hstep:Hid (rMany pt more (n2+1) (k - L.length) r=(pt r).bind fun a r=>(rMany pt more n2 (k - L.length - 1) r).bind fun l r'=>.ok (a::l) r'):=rMany_go hgo
  have hcases:(L.length:Int)<(k:Int)∨(¬ (L.length:Int)<(k:Int)∧more=true∧clos r=false):=by
   rcases hgo with h | h
   ·exact Or.inl (by omega)
   ·by_cases h2:(L.length:Int)<(k:Int)
    ·exact Or.inl h2
    ·exact Or.inr ⟨h2,h⟩
  clear hgo
  cases hP:pt r with
  | bad er a=>
   rw [hP] at cT
   have hG:Hid (RS=.bad er a):=by
    show _=_
    rw [← hRS.out,hE.out,hstep.out,hP,Rd.bind_bad,Rd.bind_bad]
   clear hE hstep hP hRS HT9 hS hO HL HSH
   rcases hcases with g1 | ⟨g1,hm,hcl⟩
   ·clear cC
    go_wp2_with fail
    refine cT.out.mono ?_
    rintro e w3 ⟨rfl,hF3⟩
    refine ⟨rfl, ?_⟩
    rw [hG.out]
    exact ⟨rfl,hF.out.trans hF3 (fun k e=>Or.inl e)⟩
   ·subst hm
    rw [hcl] at cC
    clear hcl
    go_wp2_with fail
    refine cC.out.mono ?_
    rintro e w2 ⟨rfl,hw2⟩
    obtain rfl:=hw2.symm
    clear cC
    go_wp2_with fail
    refine cT.out.mono ?_
    rintro e w3 ⟨rfl,hF3⟩
    refine ⟨rfl, ?_⟩
    rw [hG.out]
    exact ⟨rfl,hF.out.trans hF3 (fun k e=>Or.inl e)⟩
  | ok tt r2=>
   rw [hP] at cT
   have hsh2:=HSH.out r tt r2 hP
   have hE3:Hid (∀ u:FQ,rMany pt more n k ts=(rMany pt more n2 (k - (L++[(tt,u)]).length) r2).bind fun l r'=>.ok ((L++[(tt,u)]).map Prod.fst++l) r'):=fun u=>by
    rw [hE.out,hstep.out,hP,Rd.bind_ok,Rd.bind_assoc]
    have e:k - L.length - 1=k - (L++[(tt,u)]).length:=by simp;omega
    rw [e]
    simp only [Rd.bind_ok,List.map_append,List.map_cons,List.map_nil,List.append_assoc,List.cons_append,List.nil_append]
   clear hE hstep hP
   rcases hcases with g1 | ⟨g1,hm,hcl⟩
   ·clear cC
    go_wp2_with fail
    refine cT.out.mono ?_
    rintro e w3 ⟨v3,rfl,⟨q3,rfl,hQ3⟩,hA3,hF3⟩
    have HQ0:Hid (QOwn (fun q=>wr.heap.size≤q) w3 (tt,q3)):=hQ3
    obtain ⟨uv,ut,us,ur⟩:=q3
    obtain ⟨k1,k2,k3,k4⟩:=hQ3.at
    dsimp only at k1 k2 k3 k4
    obtain ⟨-,qv,dv,rfl, -⟩:=k1
    obtain ⟨qt,dt,rfl, -⟩:=k2.form
    obtain ⟨qs,ds,rfl, -⟩:=k3.form
    obtain ⟨qr,dr,rfl, -⟩:=k4.form
    clear k2 k3 k4 hQ3
    have F3:Hid (Fr (fun k=>k=R) w w3):=hF.out.trans hF3 (fun k e=>Or.inl e)
    have A3:Hid (RdAt m w3 R sz r2):=hA3
    have G3:Hid (Fr (fun k=>k=R) wr w3):=hF3
    have O3:Hid (w3.ownsRow w.heap.size 29 10 (.slice p9 L.length c9) L.length (flatF L)):=hF3.row hO.out (fun k hk e=>by have:=HK.out k hk;omega)
    have hsz3:wr.heap.size≤w3.heap.size:=hF3.size
    have hcs:Hid (∀ q:FQ,flatF [(tt,q)]=[.int .i64 tt.k,.string tt.nm,.int .i64 tt.op,q.v,q.t,.int .i64 tt.lo,.int .i64 tt.hi,.bool tt.opn,q.s,q.r]):=fun q=>rfl
    clear hF3 hA3 cT hF hA hO
    generalize tt.k=tk at*
    generalize tt.nm=nm at*
    generalize tt.op=top at*
    generalize tt.lo=lo at*
    generalize tt.hi=ihi at*
    generalize tt.opn=o at*
    generalize tt.vars.length=nv at*
    generalize tt.terms.length=nt at*
    generalize tt.subs.length=ns at*
    generalize tt.rgx.length=nr at*
    have HQ:Hid (QOwn (fun q=>wr.heap.size≤q) w3 (tt,(⟨.slice qv nv dv,.slice qt nt dt,.slice qs ns ds,.slice qr nr dr⟩:FQ))):=HQ0.out
    clear HQ0
    go_wp2_with (at_builtin;refine wpList_append_own_at _ rfl _ _ 26 rfl w.heap.size 29 i0 (.agg #[.int .i64 0,.string ByteArray.empty,.int .i64 0,.slice none 0 0,.slice none 0 0,.int .i64 0,.int .i64 0,.bool false,.slice none 0 0,.slice none 0 0]) 10 152 Tryz.underlying26 hi hz0 hz1 hz2 rfl (by decide) _ _ _ rfl (World.ownsRow.alloc O3.out _) ⟨w3.heap.size,0,none⟩ 1 1 [.int .i64 tk,.string nm,.int .i64 top,.slice qv nv dv,.slice qt nt dt,.int .i64 lo,.int .i64 ihi,.bool o,.slice qs ns ds,.slice qr nr dr] rfl rfl ?cc1 ?cc2 ?cc3 ?cc4 ?cc5 ?_)
    case cc1=>(intro j u hj;rw [Addr.add_lit];(rcases j with _ | _ | _ | _ | _ | _ | _ | _ | _ | _ | j)<;>simp at hj<;>subst hj<;>simp (maxDischargeDepth:=16) [go_sem])
    case cc2=>first | rfl | (intro u hu;simp at hu;rcases hu with rfl | rfl | rfl | rfl | rfl | rfl | rfl | rfl | rfl | rfl<;>rfl)
    case cc3=>unfold maxLen;omega
    case cc4=>omega
    case cc5=>first | omega | (simp;omega)
    intro v' w4 h2 h3 _ h5
    have O4:Hid (w4.ownsRow w.heap.size 29 10 v' (L++[(tt,(⟨.slice qv nv dv,.slice qt nt dt,.slice qs ns ds,.slice qr nr dr⟩:FQ))]).length (flatF (L++[(tt,(⟨.slice qv nv dv,.slice qt nt dt,.slice qs ns ds,.slice qr nr dr⟩:FQ))]))):=by
     unfold Hid
     rw [flatF_append,hcs.out,List.length_append]
     exact h2
    have F4:Hid (Fr (fun k=>k=R) w w4):=(F3.out.alloc _).grown h3 (fun k e=>Or.inr (HK.out k e))
    have A4:Hid (RdAt m w4 R sz r2):=(A3.out.below ((Below.refl _ _).alloc (Nat.le_refl _) _)).fr (P:=fun k=>w.heap.size≤k) ((Fr.refl _ _).grown h3 (fun k e=>Or.inl (HK.out k e))) (fun k e=>by omega)
    have HL4:=A4.out.len
    have blk:Hid (∀ q,q<w3.heap.size→(Value.slice p9 L.length c9).ownBlock≠some q→w4.heap[q]? =w3.heap[q]?):=fun q hq hne=>(h3.block q (by simp;omega) (fun h=>hne h.symm)).trans (Below.heap_alloc _ _ q hq)
    have h50:v'.ownBlock=(Value.slice p9 L.length c9).ownBlock∨v'.ownBlock=some (w3.heap.size+1):=by simpa using h5
    have h5':Hid (v'.ownBlock=(Value.slice p9 L.length c9).ownBlock∨v'.ownBlock=some (w3.heap.size+1)):=h50
    have S4:Hid (∀ x∈L++[(tt,(⟨.slice qv nv dv,.slice qt nt dt,.slice qs ns ds,.slice qr nr dr⟩:FQ))],QOwn (fun q=>w.heap.size≤q∧v'.ownBlock≠some q) w4 x):=fun x hx=>by
     rcases List.mem_append.1 hx with hx | hx
     ·have b:=hS.out x hx
      refine ((b.mono (P':=fun q=>(w.heap.size≤q∧(Value.slice p9 L.length c9).ownBlock≠some q)∧q<wr.heap.size) fun q h1 h2=>⟨h1,h2⟩).keep (w':=w4) fun q h1 h2=> ?_).mono fun q h1 _=>⟨h1.1.1, ?_⟩
      ·exact (blk.out q (by omega) h1.1.2).trans (G3.out.block q h1.2 (fun e=>by omega))
      ·rcases h5'.out with h5 | h5
       ·rw [h5];exact h1.1.2
       ·rw [h5];intro h;injection h with h;omega
     ·simp only [List.mem_singleton] at hx
      subst hx
      refine ((HQ.out.mono (P':=fun q=>wr.heap.size≤q∧q<w3.heap.size) fun q h1 h2=>⟨h1,h2⟩).keep (w':=w4) fun q h1 h2=> ?_).mono fun q h1 _=>⟨by omega, ?_⟩
      ·exact blk.out q h2 (fun h=>by have:=HKw.out q h;omega)
      ·rcases h5'.out with h5 | h5
       ·rw [h5];intro h;have:=HKw.out q h;omega
       ·rw [h5];intro h;injection h with h;omega
    clear h2 h3 h5 h50 HK O3 hS blk HQ h5' HKw hcs HT9
    go_wp2
    exact ⟨⟨L++[(tt,(⟨.slice qv nv dv,.slice qt nt dt,.slice qs ns ds,.slice qr nr dr⟩:FQ))],r2,n2,hE3.out _,by omega,by simp;omega,A4,F4,O4,S4⟩,by omega⟩
   ·subst hm
    rw [hcl] at cC
    clear hcl
    go_wp2_with fail
    refine cC.out.mono ?_
    rintro e w2 ⟨rfl,hw2⟩
    obtain rfl:=hw2.symm
    clear cC
    go_wp2_with fail
    refine cT.out.mono ?_
    rintro e w3 ⟨v3,rfl,⟨q3,rfl,hQ3⟩,hA3,hF3⟩
    have HQ0:Hid (QOwn (fun q=>wr.heap.size≤q) w3 (tt,q3)):=hQ3
    obtain ⟨uv,ut,us,ur⟩:=q3
    obtain ⟨k1,k2,k3,k4⟩:=hQ3.at
    dsimp only at k1 k2 k3 k4
    obtain ⟨-,qv,dv,rfl, -⟩:=k1
    obtain ⟨qt,dt,rfl, -⟩:=k2.form
    obtain ⟨qs,ds,rfl, -⟩:=k3.form
    obtain ⟨qr,dr,rfl, -⟩:=k4.form
    clear k2 k3 k4 hQ3
    have F3:Hid (Fr (fun k=>k=R) w w3):=hF.out.trans hF3 (fun k e=>Or.inl e)
    have A3:Hid (RdAt m w3 R sz r2):=hA3
    have G3:Hid (Fr (fun k=>k=R) wr w3):=hF3
    have O3:Hid (w3.ownsRow w.heap.size 29 10 (.slice p9 L.length c9) L.length (flatF L)):=hF3.row hO.out (fun k hk e=>by have:=HK.out k hk;omega)
    have hsz3:wr.heap.size≤w3.heap.size:=hF3.size
    have hcs:Hid (∀ q:FQ,flatF [(tt,q)]=[.int .i64 tt.k,.string tt.nm,.int .i64 tt.op,q.v,q.t,.int .i64 tt.lo,.int .i64 tt.hi,.bool tt.opn,q.s,q.r]):=fun q=>rfl
    clear hF3 hA3 cT hF hA hO
    generalize tt.k=tk at*
    generalize tt.nm=nm at*
    generalize tt.op=top at*
    generalize tt.lo=lo at*
    generalize tt.hi=ihi at*
    generalize tt.opn=o at*
    generalize tt.vars.length=nv at*
    generalize tt.terms.length=nt at*
    generalize tt.subs.length=ns at*
    generalize tt.rgx.length=nr at*
    have HQ:Hid (QOwn (fun q=>wr.heap.size≤q) w3 (tt,(⟨.slice qv nv dv,.slice qt nt dt,.slice qs ns ds,.slice qr nr dr⟩:FQ))):=HQ0.out
    clear HQ0
    go_wp2_with (at_builtin;refine wpList_append_own_at _ rfl _ _ 26 rfl w.heap.size 29 i0 (.agg #[.int .i64 0,.string ByteArray.empty,.int .i64 0,.slice none 0 0,.slice none 0 0,.int .i64 0,.int .i64 0,.bool false,.slice none 0 0,.slice none 0 0]) 10 152 Tryz.underlying26 hi hz0 hz1 hz2 rfl (by decide) _ _ _ rfl (World.ownsRow.alloc O3.out _) ⟨w3.heap.size,0,none⟩ 1 1 [.int .i64 tk,.string nm,.int .i64 top,.slice qv nv dv,.slice qt nt dt,.int .i64 lo,.int .i64 ihi,.bool o,.slice qs ns ds,.slice qr nr dr] rfl rfl ?cc1 ?cc2 ?cc3 ?cc4 ?cc5 ?_)
    case cc1=>(intro j u hj;rw [Addr.add_lit];(rcases j with _ | _ | _ | _ | _ | _ | _ | _ | _ | _ | j)<;>simp at hj<;>subst hj<;>simp (maxDischargeDepth:=16) [go_sem])
    case cc2=>first | rfl | (intro u hu;simp at hu;rcases hu with rfl | rfl | rfl | rfl | rfl | rfl | rfl | rfl | rfl | rfl<;>rfl)
    case cc3=>unfold maxLen;omega
    case cc4=>omega
    case cc5=>first | omega | (simp;omega)
    intro v' w4 h2 h3 _ h5
    have O4:Hid (w4.ownsRow w.heap.size 29 10 v' (L++[(tt,(⟨.slice qv nv dv,.slice qt nt dt,.slice qs ns ds,.slice qr nr dr⟩:FQ))]).length (flatF (L++[(tt,(⟨.slice qv nv dv,.slice qt nt dt,.slice qs ns ds,.slice qr nr dr⟩:FQ))]))):=by
     unfold Hid
     rw [flatF_append,hcs.out,List.length_append]
     exact h2
    have F4:Hid (Fr (fun k=>k=R) w w4):=(F3.out.alloc _).grown h3 (fun k e=>Or.inr (HK.out k e))
    have A4:Hid (RdAt m w4 R sz r2):=(A3.out.below ((Below.refl _ _).alloc (Nat.le_refl _) _)).fr (P:=fun k=>w.heap.size≤k) ((Fr.refl _ _).grown h3 (fun k e=>Or.inl (HK.out k e))) (fun k e=>by omega)
    have HL4:=A4.out.len
    have blk:Hid (∀ q,q<w3.heap.size→(Value.slice p9 L.length c9).ownBlock≠some q→w4.heap[q]? =w3.heap[q]?):=fun q hq hne=>(h3.block q (by simp;omega) (fun h=>hne h.symm)).trans (Below.heap_alloc _ _ q hq)
    have h50:v'.ownBlock=(Value.slice p9 L.length c9).ownBlock∨v'.ownBlock=some (w3.heap.size+1):=by simpa using h5
    have h5':Hid (v'.ownBlock=(Value.slice p9 L.length c9).ownBlock∨v'.ownBlock=some (w3.heap.size+1)):=h50
    have S4:Hid (∀ x∈L++[(tt,(⟨.slice qv nv dv,.slice qt nt dt,.slice qs ns ds,.slice qr nr dr⟩:FQ))],QOwn (fun q=>w.heap.size≤q∧v'.ownBlock≠some q) w4 x):=fun x hx=>by
     rcases List.mem_append.1 hx with hx | hx
     ·have b:=hS.out x hx
      refine ((b.mono (P':=fun q=>(w.heap.size≤q∧(Value.slice p9 L.length c9).ownBlock≠some q)∧q<wr.heap.size) fun q h1 h2=>⟨h1,h2⟩).keep (w':=w4) fun q h1 h2=> ?_).mono fun q h1 _=>⟨h1.1.1, ?_⟩
      ·exact (blk.out q (by omega) h1.1.2).trans (G3.out.block q h1.2 (fun e=>by omega))
      ·rcases h5'.out with h5 | h5
       ·rw [h5];exact h1.1.2
       ·rw [h5];intro h;injection h with h;omega
     ·simp only [List.mem_singleton] at hx
      subst hx
      refine ((HQ.out.mono (P':=fun q=>wr.heap.size≤q∧q<w3.heap.size) fun q h1 h2=>⟨h1,h2⟩).keep (w':=w4) fun q h1 h2=> ?_).mono fun q h1 _=>⟨by omega, ?_⟩
      ·exact blk.out q h2 (fun h=>by have:=HKw.out q h;omega)
      ·rcases h5'.out with h5 | h5
       ·rw [h5];intro h;have:=HKw.out q h;omega
       ·rw [h5];intro h;injection h with h;omega
    clear h2 h3 h5 h50 HK O3 hS blk HQ h5' HKw hcs HT9
    go_wp2
    exact ⟨⟨L++[(tt,(⟨.slice qv nv dv,.slice qt nt dt,.slice qs ns ds,.slice qr nr dr⟩:FQ))],r2,n2,hE3.out _,by omega,by simp;omega,A4,F4,O4,S4⟩,by omega⟩
end Go.Proofs.YticnfeolbfmgfaaGreatDoor
