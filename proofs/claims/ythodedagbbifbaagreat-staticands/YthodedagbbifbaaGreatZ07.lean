/- What the claims of this seat share: base. -/
import Derived.Test.YthodedagbbifbaaGreatZ06
import Derived.Deep.RegionHeld3
import Derived.Deep.RegionWith
import Derived.RangeFuncNested
import Derived.RangeFuncBound
import Derived.RangeFuncCalls
import Derived.RangeFuncLeaves
import Derived.Shelf.Abstract
import Derived.Shelf.RegionOpen
import Derived.WalkKit
import Derived.OwnWalk
import Derived.OwnWalkIn
import Derived.TacticsInMore
import Derived.LoopNIn
import Derived.LoopIn
import Derived.Laws.OwnMore
import Derived.Lib.Builder
import Derived.Maps.AppendAt
import Derived.Handy
import Derived.IntWalk
import Derived.Deep.Cut
import Derived.BigQuiet
import Derived.Deep.QuietTactic
import Derived.WalkLawsBesides
import Derived.WalkMore
import Derived.WalkSpells
import Derived.Deep.RegionLaw
import Derived.Test.YthodedagbbifbaaGreatRows
set_option maxRecDepth 100000
set_option maxHeartbeats 16000000
namespace Go.Proofs.YthodedagbbifbaaGreat
open Go.RowKit LX Go.Shelf
set_option linter.unusedVariables false
section
mutual
def ldF:Fm→Bool
 | .mk k _ op _ terms _ _ _ subs rgx=>decide (k=19∧(op=1∨op=5∨op=6)) || (rckTs terms || (ldRs rgx || ldFs subs))
def ldFs:List Fm→Bool
 | []=>false
 | f::l=>ldF f || ldFs l
def ldR:Rx→Bool
 | .mk _ test subs=>ldFs test || ldRs subs
def ldRs:List Rx→Bool
 | []=>false
 | r::l=>ldR r || ldRs l
end
end
theorem ldF_eq (f:Fm):ldF f=(decide (f.k=19∧(f.op=1∨f.op=5∨f.op=6)) || (rckTs f.terms || (ldRs f.rgx || ldFs f.subs))):=by cases f;rw [ldF];rfl
theorem ldR_eq (r:Rx):ldR r=(ldFs r.test || ldRs r.subs):=by cases r;rw [ldR];rfl
theorem ldFs_nil:ldFs []=false:=by rw [ldFs]
theorem ldRs_nil:ldRs []=false:=by rw [ldRs]
theorem ldFs_cons (f:Fm) (l:List Fm):ldFs (f::l)=(ldF f || ldFs l):=by rw [ldFs]
theorem ldRs_cons (f:Rx) (l:List Rx):ldRs (f::l)=(ldR f || ldRs l):=by rw [ldRs]
theorem sfm_formsQ {w:World} {f:Fm} {q:FQ} (h:QAt w (f,q)):(∃ p c,q.v=.slice p f.vars.length c)∧(∃ p c,q.t=.slice p f.terms.length c)∧(∃ p c,q.s=.slice p f.subs.length c)∧∃ p c,q.r=.slice p f.rgx.length c:=by
 obtain ⟨h1,h2,h3,h4⟩:=h
 obtain ⟨p1,c1,e1, -⟩:=h1.form
 obtain ⟨p2,c2,e2, -⟩:=h2.form
 obtain ⟨p3,c3,e3, -⟩:=h3.form
 obtain ⟨p4,c4,e4, -⟩:=h4.form
 exact ⟨⟨p1,c1,e1⟩,⟨p2,c2,e2⟩,⟨p3,c3,e3⟩,⟨p4,c4,e4⟩⟩
theorem idxF_any (ts:List Fm) (V:Value) (w:World) (hV:FmsAt w V ts) (HC:∀ i (hi:i<ts.length) (q:FQ) (W:World),Below w.heap.size w W→QAt W (ts[i],q)→Calls Tryz.prog 34 #[.agg #[.int .i64 ts[i].k,.string ts[i].nm,.int .i64 ts[i].op,q.v,q.t,.int .i64 ts[i].lo,.int .i64 ts[i].hi,.bool ts[i].opn,q.s,q.r]] W fun e w'=>e=.returned (.bool (ldF ts[i]))∧Below W.heap.size W w'):
  Calls Tryz.prog 58 #[V,.func (.func 34) #[] #[]] w fun e w'=>∃ i:Int,e=.returned (.int .i64 i)∧decide (0≤i)=ldFs ts∧Below w.heap.size w w':=by
 have eg:∀ args w,(callFunc 34 args).run Tryz.prog w=.ok (.enter 34 args) w:=enters_of Tryz.func34 (by kernel_rfl) rfl
 obtain ⟨p,c,rfl,hl,hc,HX0⟩:=hV.form
 have HX:Hid (∀ i (hi:i<ts.length),∃ b off uv ut us ur,p=some ⟨b,off,none⟩∧b<w.heap.size∧FmC w b (off+i*10) ts[i] uv ut us ur∧NmsAt w uv ts[i].vars∧TmsAt w ut ts[i].terms∧FmsAt w us ts[i].subs∧RxsAt w ur ts[i].rgx):=HX0
 have CT:Hid (∀ i (hi:i<ts.length) (q:FQ) (W:World),Below w.heap.size w W→QAt W (ts[i],q)→Calls Tryz.prog 34 #[.agg #[.int .i64 ts[i].k,.string ts[i].nm,.int .i64 ts[i].op,q.v,q.t,.int .i64 ts[i].lo,.int .i64 ts[i].hi,.bool ts[i].opn,q.s,q.r]] W fun e w'=>e=.returned (.bool (ldF ts[i]))∧Below W.heap.size W w'):=HC
 obtain ⟨n,en⟩:∃ n:Nat,Hid (ts.length=n):=⟨_,rfl⟩
 rw [en.out] at hl hc ⊢
 clear hV HX0 HC
 go_enter Tryz.func58,Tryz.ntmps58
 go_wp2
 go_loopw [8] (fun i wr=>∃ k:Nat,k≤n∧i=.int .i64 k∧Hid (ldFs ts=ldFs (ts.drop k))∧Below w.heap.size w wr) (fun i _=>n - (intOf i).toNat)
 case atStart=>exact ⟨0,Nat.zero_le _,rfl,(show ldFs ts=ldFs (ts.drop 0) by simp),Below.refl _ _⟩
 case round=>
  obtain ⟨k,hk,rfl,hr,hBw⟩:=hrel
  by_cases hlt:k<n
  ·have kx:k<ts.length:=by have:=en.out;omega
   have hlt':(k:Int)<n:=by omega
   obtain ⟨b,off,uv,ut,us,ur,rfl,hb,FC,h1,h2,h3,h4⟩:=HX.out k kx
   obtain ⟨a0,a1,a2,a3,a4,a5,a6,a7,a8,a9⟩:=FC.below hBw hb
   have ct:=CT.out k kx (⟨uv,ut,us,ur⟩:FQ) wr hBw ⟨h1.below hBw,h2.bel hBw,h3.bel hBw,h4.bel hBw⟩
   obtain ⟨pv,cv,rfl, -⟩:=h1.form
   obtain ⟨pt,ct_,rfl, -⟩:=h2.form
   obtain ⟨ps_,cs,rfl, -⟩:=h3.form
   obtain ⟨pr,cr,rfl, -⟩:=h4.form
   clear FC h1 h2 h3 h4
   have hr2:Hid (ldFs ts=(ldF ts[k] || ldFs (ts.drop (k+1)))):=by
    have h:=hr.out
    rw [List.drop_eq_getElem_cons kx,ldFs_cons] at h
    exact h
   clear hr
   generalize ldF ts[k]=C at hr2 ct
   generalize ts[k].vars.length=nv at*
   generalize ts[k].terms.length=nt at*
   generalize ts[k].subs.length=ns at*
   generalize ts[k].rgx.length=nr at*
   generalize ts[k].nm=nm at*
   generalize ts[k].op=op at*
   generalize ts[k].lo=lo at*
   generalize ts[k].hi=hi at*
   generalize ts[k].opn=o at*
   generalize ts[k].k=fk at*
   have CTk:Hid (Calls Tryz.prog 34 #[.agg #[.int .i64 fk,.string nm,.int .i64 op,.slice pv nv cv,.slice pt nt ct_,.int .i64 lo,.int .i64 hi,.bool o,.slice ps_ ns cs,.slice pr nr cr]] wr fun e w'=>e=.returned (.bool C)∧Below wr.heap.size wr w'):=ct
   clear ct
   go_wp2_with fail
   refine CTk.out.mono ?_
   rintro e w1 ⟨rfl,hw1⟩
   have hB2:Below w.heap.size w w1:=hBw.trans (hw1.mono hBw.size)
   clear a0 a1 a2 a3 a4 a5 a6 a7 a8 a9 CTk hw1
   cases C with
   | true=>
    have hr3:Hid (ldFs ts=true):=by have:=hr2.out;rwa [Bool.true_or] at this
    go_wp2
    go_ret
    exact ⟨k,rfl,by rw [hr3.out];simp,hB2⟩
   | false=>
    have hr3:Hid (ldFs ts=ldFs (ts.drop (k+1))):=by have:=hr2.out;rwa [Bool.false_or] at this
    go_wp2
    exact ⟨⟨k+1,by omega,by go_num,hr3,hB2⟩,by simp [intOf];omega⟩
  ·have c2:¬ (k:Int)<n:=by omega
   have hr3:Hid (ldFs ts=false):=by
    have h:=hr.out
    rw [List.drop_eq_nil_of_le (by have:=en.out;omega),ldFs_nil] at h
    exact h
   go_wp2
   go_ret
   exact ⟨-1,rfl,by rw [hr3.out];decide,hBw⟩
theorem conF_any (ts:List Fm) (V:Value) (w:World) (hV:FmsAt w V ts) (HC:∀ i (hi:i<ts.length) (q:FQ) (W:World),Below w.heap.size w W→QAt W (ts[i],q)→Calls Tryz.prog 34 #[.agg #[.int .i64 ts[i].k,.string ts[i].nm,.int .i64 ts[i].op,q.v,q.t,.int .i64 ts[i].lo,.int .i64 ts[i].hi,.bool ts[i].opn,q.s,q.r]] W fun e w'=>e=.returned (.bool (ldF ts[i]))∧Below W.heap.size W w'):
  Calls Tryz.prog 33 #[V,.func (.func 34) #[] #[]] w fun e w'=>e=.returned (.bool (ldFs ts))∧Below w.heap.size w w':=by
 have ct:Hid (Calls Tryz.prog 58 #[V,.func (.func 34) #[] #[]] w fun e w'=>∃ i:Int,e=.returned (.int .i64 i)∧decide (0≤i)=ldFs ts∧Below w.heap.size w w'):=idxF_any ts V w hV HC
 obtain ⟨p,c,rfl, -⟩:=hV.form
 clear hV HC
 generalize ts.length=n at*
 generalize ldFs ts=R at*
 go_enter Tryz.func33,Tryz.ntmps33
 go_wp2_with fail
 refine ct.out.mono ?_
 rintro e w1 ⟨i,rfl,hi,hb⟩
 have HI:Hid (decide (0≤i)=R):=hi
 clear ct hi
 go_wp2
 go_ret
 exact ⟨ret_bool HI.out,hb⟩
theorem idxR_any (ts:List Rx) (V:Value) (w:World) (hV:RxsAt w V ts) (HC:∀ i (hi:i<ts.length) (ut us:Value) (W:World),Below w.heap.size w W→FmsAt W ut ts[i].test→RxsAt W us ts[i].subs→Calls Tryz.prog 32 #[.agg #[.int .i64 ts[i].k,ut,us]] W fun e w'=>e=.returned (.bool (ldR ts[i]))∧Below W.heap.size W w'):
  Calls Tryz.prog 57 #[V,.func (.func 32) #[] #[]] w fun e w'=>∃ i:Int,e=.returned (.int .i64 i)∧decide (0≤i)=ldRs ts∧Below w.heap.size w w':=by
 have eg:∀ args w,(callFunc 32 args).run Tryz.prog w=.ok (.enter 32 args) w:=enters_of Tryz.func32 (by kernel_rfl) rfl
 obtain ⟨p,c,rfl,hl,hc,HX0⟩:=hV.form
 have HX:Hid (∀ i (hi:i<ts.length),∃ b off ut us,p=some ⟨b,off,none⟩∧b<w.heap.size∧RxC w b (off+i*3) ts[i] ut us∧FmsAt w ut ts[i].test∧RxsAt w us ts[i].subs):=HX0
 have CT:Hid (∀ i (hi:i<ts.length) (ut us:Value) (W:World),Below w.heap.size w W→FmsAt W ut ts[i].test→RxsAt W us ts[i].subs→Calls Tryz.prog 32 #[.agg #[.int .i64 ts[i].k,ut,us]] W fun e w'=>e=.returned (.bool (ldR ts[i]))∧Below W.heap.size W w'):=HC
 obtain ⟨n,en⟩:∃ n:Nat,Hid (ts.length=n):=⟨_,rfl⟩
 rw [en.out] at hl hc ⊢
 clear hV HX0 HC
 go_enter Tryz.func57,Tryz.ntmps57
 go_wp2
 go_loopw [8] (fun i wr=>∃ k:Nat,k≤n∧i=.int .i64 k∧Hid (ldRs ts=ldRs (ts.drop k))∧Below w.heap.size w wr) (fun i _=>n - (intOf i).toNat)
 case atStart=>exact ⟨0,Nat.zero_le _,rfl,(show ldRs ts=ldRs (ts.drop 0) by simp),Below.refl _ _⟩
 case round=>
  obtain ⟨k,hk,rfl,hr,hBw⟩:=hrel
  by_cases hlt:k<n
  ·have kx:k<ts.length:=by have:=en.out;omega
   have hlt':(k:Int)<n:=by omega
   obtain ⟨b,off,ut,us,rfl,hb,RC,h1,h2⟩:=HX.out k kx
   obtain ⟨a0,a1,a2⟩:=RC.below hBw hb
   have ct:=CT.out k kx ut us wr hBw (h1.bel hBw) (h2.bel hBw)
   obtain ⟨pt,ct_,rfl, -⟩:=h1.form
   obtain ⟨ps_,cs,rfl, -⟩:=h2.form
   clear RC h1 h2
   have hr2:Hid (ldRs ts=(ldR ts[k] || ldRs (ts.drop (k+1)))):=by
    have h:=hr.out
    rw [List.drop_eq_getElem_cons kx,ldRs_cons] at h
    exact h
   clear hr
   generalize ldR ts[k]=C at hr2 ct
   generalize ts[k].test.length=nt at*
   generalize ts[k].subs.length=ns at*
   generalize ts[k].k=rk at*
   have CTk:Hid (Calls Tryz.prog 32 #[.agg #[.int .i64 rk,.slice pt nt ct_,.slice ps_ ns cs]] wr fun e w'=>e=.returned (.bool C)∧Below wr.heap.size wr w'):=ct
   clear ct
   go_wp2_with fail
   refine CTk.out.mono ?_
   rintro e w1 ⟨rfl,hw1⟩
   have hB2:Below w.heap.size w w1:=hBw.trans (hw1.mono hBw.size)
   clear a0 a1 a2 CTk hw1
   cases C with
   | true=>
    have hr3:Hid (ldRs ts=true):=by have:=hr2.out;rwa [Bool.true_or] at this
    go_wp2
    go_ret
    exact ⟨k,rfl,by rw [hr3.out];simp,hB2⟩
   | false=>
    have hr3:Hid (ldRs ts=ldRs (ts.drop (k+1))):=by have:=hr2.out;rwa [Bool.false_or] at this
    go_wp2
    exact ⟨⟨k+1,by omega,by go_num,hr3,hB2⟩,by simp [intOf];omega⟩
  ·have c2:¬ (k:Int)<n:=by omega
   have hr3:Hid (ldRs ts=false):=by
    have h:=hr.out
    rw [List.drop_eq_nil_of_le (by have:=en.out;omega),ldRs_nil] at h
    exact h
   go_wp2
   go_ret
   exact ⟨-1,rfl,by rw [hr3.out];decide,hBw⟩
theorem conR_any (ts:List Rx) (V:Value) (w:World) (hV:RxsAt w V ts) (HC:∀ i (hi:i<ts.length) (ut us:Value) (W:World),Below w.heap.size w W→FmsAt W ut ts[i].test→RxsAt W us ts[i].subs→Calls Tryz.prog 32 #[.agg #[.int .i64 ts[i].k,ut,us]] W fun e w'=>e=.returned (.bool (ldR ts[i]))∧Below W.heap.size W w'):
  Calls Tryz.prog 31 #[V,.func (.func 32) #[] #[]] w fun e w'=>e=.returned (.bool (ldRs ts))∧Below w.heap.size w w':=by
 have ct:Hid (Calls Tryz.prog 57 #[V,.func (.func 32) #[] #[]] w fun e w'=>∃ i:Int,e=.returned (.int .i64 i)∧decide (0≤i)=ldRs ts∧Below w.heap.size w w'):=idxR_any ts V w hV HC
 obtain ⟨p,c,rfl, -⟩:=hV.form
 clear hV HC
 generalize ts.length=n at*
 generalize ldRs ts=R at*
 go_enter Tryz.func31,Tryz.ntmps31
 go_wp2_with fail
 refine ct.out.mono ?_
 rintro e w1 ⟨i,rfl,hi,hb⟩
 have HI:Hid (decide (0≤i)=R):=hi
 clear ct hi
 go_wp2
 go_ret
 exact ⟨ret_bool HI.out,hb⟩
theorem qtF_step (f:Fm) (q:FQ) (w:World) (hq:QAt w (f,q))
  (CF:∀ W:World,Below w.heap.size w W→Calls Tryz.prog 33 #[q.s,.func (.func 34) #[] #[]] W fun e w'=>e=.returned (.bool (ldFs f.subs))∧Below W.heap.size W w')
  (CR:∀ W:World,Below w.heap.size w W→Calls Tryz.prog 31 #[q.r,.func (.func 32) #[] #[]] W fun e w'=>e=.returned (.bool (ldRs f.rgx))∧Below W.heap.size W w'):
  Calls Tryz.prog 16 #[.agg #[.int .i64 f.k,.string f.nm,.int .i64 f.op,q.v,q.t,.int .i64 f.lo,.int .i64 f.hi,.bool f.opn,q.s,q.r]] w fun e w'=>e=.returned (.bool (!ldF f))∧Below w.heap.size w w':=by
 have cT:Hid (∀ W:World,Below w.heap.size w W→Calls Tryz.prog 29 #[q.t,.func (.func 30) #[] #[]] W fun e w'=>e=.returned (.bool (rckTs f.terms))∧Below W.heap.size W w'):=fun W hW=>
  conT_any f.terms q.t W (hq.2.1.bel hW) (fun i hi u W' hW' hu=>reckons_any _ f.terms[i] u W' (Nat.le_refl _) hu)
 have cF:Hid (∀ W:World,Below w.heap.size w W→_):=CF
 have cR:Hid (∀ W:World,Below w.heap.size w W→_):=CR
 have hR0:=ldF_eq f
 obtain ⟨⟨pv,cv,ev⟩,⟨pt,ct,et⟩,⟨ps_,cs,es⟩,⟨pr,cr,er⟩⟩:=sfm_formsQ hq
 rw [et] at cT
 rw [es] at cF
 rw [er] at cR
 rw [ev,et,es,er]
 clear ev et es er hq CF CR
 generalize ldF f=R at*
 generalize rckTs f.terms=RT at*
 generalize ldRs f.rgx=RR at*
 generalize ldFs f.subs=RF at*
 generalize f.vars.length=nv at*
 generalize f.terms.length=nt at*
 generalize f.subs.length=ns at*
 generalize f.rgx.length=nr at*
 generalize f.nm=nm at*
 generalize f.op=op at*
 generalize f.lo=lo at*
 generalize f.hi=hi at*
 generalize f.opn=o at*
 generalize f.k=k at*
 have HR:Hid (R=(decide (k=19∧(op=1∨op=5∨op=6)) || (RT || (RR || RF)))):=hR0
 clear hR0
 by_cases hA:k=19∧(op=1∨op=5∨op=6)
 ·have hR:R=true:=by rw [HR.out,decide_eq_true hA];rfl
  subst hR
  clear HR
  obtain ⟨rfl,ho⟩:=hA
  rcases ho with rfl | rfl | rfl
  all_goals
   go_enter Tryz.func16,Tryz.ntmps16
   go_wp2
   go_ret
   exact ⟨rfl,by go_grown⟩
 ·have hR:Hid (R=(RT || (RR || RF))):=by show _=_;rw [HR.out,decide_eq_false hA,Bool.false_or]
  clear HR
  have hk:(k==19)=false∨((k==19)=true∧(op==1)=false∧(op==5)=false∧(op==6)=false):=by
   by_cases h19:k=19
   ·right
    have:¬ (op=1∨op=5∨op=6):=fun h=>hA ⟨h19,h⟩
    simp [h19]
    omega
   ·left;simp [h19]
  clear hA
  rcases hk with hk | ⟨hk,ho1,ho5,ho6⟩
  all_goals
   go_enter Tryz.func16,Tryz.ntmps16
   go_wp2_with fail
   refine (cT.out _ (by go_grown)).mono ?_
   rintro e1 w1 ⟨rfl,hb1⟩
   have K1:Below w.heap.size w w1:=Below.trans (by go_grown) (hb1.mono (by simp))
   have gb:∀ o,w1.cell? ⟨w.heap.size,o,none⟩=_:=fun o=>hb1.cell (p:=⟨w.heap.size,o,none⟩) (by simp)
   have hl1:w.heap.size<w1.heap.size:=Nat.lt_of_lt_of_le (by simp) hb1.size
   have x6:w1.cell? ⟨w.heap.size,8,none⟩=some (.slice ps_ ns cs):=(gb 8).trans (by simp (maxDischargeDepth:=12) [go_sem])
   have x7:w1.cell? ⟨w.heap.size,9,none⟩=some (.slice pr nr cr):=(gb 9).trans (by simp (maxDischargeDepth:=12) [go_sem])
   clear hb1 gb cT
   cases RT with
   | true=>
    have h9:R=true:=hR.out
    subst h9
    clear hR
    go_wp2
    go_ret
    exact ⟨rfl,K1⟩
   | false=>
    have hR2:Hid (R=(RR || RF)):=hR.out
    clear hR
    go_wp2_with fail
    refine (cR.out _ (by first | exact K1 | go_grown)).mono ?_
    rintro e1 w2 ⟨rfl,hb2⟩
    have K2:Below w.heap.size w w2:=K1.trans (hb2.mono K1.size)
    have y6:w2.cell? ⟨w.heap.size,8,none⟩=some (.slice ps_ ns cs):=(hb2.cell (p:=⟨w.heap.size,8,none⟩) hl1).trans x6
    clear hb2 x6 x7 cR K1
    cases RR with
    | true=>
     have h9:R=true:=hR2.out
     subst h9
     clear hR2
     go_wp2
     go_ret
     exact ⟨rfl,K2⟩
    | false=>
     have h9:R=RF:=hR2.out
     subst h9
     clear hR2
     go_wp2_with fail
     refine (cF.out _ (by first | exact K2 | go_grown)).mono ?_
     rintro e1 w3 ⟨rfl,hb3⟩
     have K3:Below w.heap.size w w3:=K2.trans (hb3.mono K2.size)
     clear hb3 cF
     go_wp2
     go_ret
     exact ⟨by first | rfl | simp,K3⟩
theorem loud_step (f:Fm) (q:FQ) (w:World) (hq:QAt w (f,q)) (C:∀ W:World,Below w.heap.size w W→Calls Tryz.prog 16 #[.agg #[.int .i64 f.k,.string f.nm,.int .i64 f.op,q.v,q.t,.int .i64 f.lo,.int .i64 f.hi,.bool f.opn,q.s,q.r]] W fun e w'=>e=.returned (.bool (!ldF f))∧Below W.heap.size W w'):
  Calls Tryz.prog 34 #[.agg #[.int .i64 f.k,.string f.nm,.int .i64 f.op,q.v,q.t,.int .i64 f.lo,.int .i64 f.hi,.bool f.opn,q.s,q.r]] w fun e w'=>e=.returned (.bool (ldF f))∧Below w.heap.size w w':=by
 have cT:Hid (∀ W:World,Below w.heap.size w W→_):=C
 obtain ⟨⟨pv,cv,ev⟩,⟨pt,ct,et⟩,⟨ps_,cs,es⟩,⟨pr,cr,er⟩⟩:=sfm_formsQ hq
 rw [ev,et,es,er] at cT
 rw [ev,et,es,er]
 clear ev et es er hq C
 generalize ldF f=R at*
 generalize f.vars.length=nv at*
 generalize f.terms.length=nt at*
 generalize f.subs.length=ns at*
 generalize f.rgx.length=nr at*
 generalize f.nm=nm at*
 generalize f.op=op at*
 generalize f.lo=lo at*
 generalize f.hi=hi at*
 generalize f.opn=o at*
 generalize f.k=k at*
 go_enter Tryz.func34,Tryz.ntmps34
 go_wp2_with fail
 refine (cT.out _ (by go_grown)).mono ?_
 rintro e1 w1 ⟨rfl,hb1⟩
 have K1:Below w.heap.size w w1:=Below.trans (by go_grown) (hb1.mono (by simp))
 clear hb1 cT
 go_wp2
 go_ret
 exact ⟨by first | rfl | simp,K1⟩
theorem loudR_step (r:Rx) (ut us:Value) (w:World) (hT:FmsAt w ut r.test) (hS:RxsAt w us r.subs)
  (CF:∀ W:World,Below w.heap.size w W→Calls Tryz.prog 33 #[ut,.func (.func 34) #[] #[]] W fun e w'=>e=.returned (.bool (ldFs r.test))∧Below W.heap.size W w')
  (CR:∀ W:World,Below w.heap.size w W→Calls Tryz.prog 31 #[us,.func (.func 32) #[] #[]] W fun e w'=>e=.returned (.bool (ldRs r.subs))∧Below W.heap.size W w'):
  Calls Tryz.prog 32 #[.agg #[.int .i64 r.k,ut,us]] w fun e w'=>e=.returned (.bool (ldR r))∧Below w.heap.size w w':=by
 have cF:Hid (∀ W:World,Below w.heap.size w W→_):=CF
 have cR:Hid (∀ W:World,Below w.heap.size w W→_):=CR
 have hR0:=ldR_eq r
 obtain ⟨pt,ct,rfl, -⟩:=hT.form
 obtain ⟨ps_,cs,rfl, -⟩:=hS.form
 clear hT hS CF CR
 generalize ldR r=R at*
 generalize ldFs r.test=RF at*
 generalize ldRs r.subs=RR at*
 generalize r.test.length=nt at*
 generalize r.subs.length=ns at*
 generalize r.k=k at*
 have HR:Hid (R=(RF || RR)):=hR0
 clear hR0
 go_enter Tryz.func32,Tryz.ntmps32
 go_wp2_with fail
 refine (cF.out _ (by go_grown)).mono ?_
 rintro e1 w1 ⟨rfl,hb1⟩
 have K1:Below w.heap.size w w1:=Below.trans (by go_grown) (hb1.mono (by simp))
 have gb:∀ o,w1.cell? ⟨w.heap.size,o,none⟩=_:=fun o=>hb1.cell (p:=⟨w.heap.size,o,none⟩) (by simp)
 have x2:w1.cell? ⟨w.heap.size,2,none⟩=some (.slice ps_ ns cs):=(gb 2).trans (by simp (maxDischargeDepth:=12) [go_sem])
 clear hb1 gb cF
 cases RF with
 | true=>
  have h9:R=true:=HR.out
  subst h9
  clear HR
  go_wp2
  go_ret
  exact ⟨rfl,K1⟩
 | false=>
  have h9:R=RR:=HR.out
  subst h9
  clear HR
  go_wp2_with fail
  refine (cR.out _ (by first | exact K1 | go_grown)).mono ?_
  rintro e1 w2 ⟨rfl,hb2⟩
  have K2:Below w.heap.size w w2:=K1.trans (hb2.mono K1.size)
  clear hb2 cR
  go_wp2
  go_ret
  exact ⟨by first | rfl | simp,K2⟩
theorem quiet_all:∀ n:Nat,(∀ (f:Fm) (q:FQ) (w:World),nodF f≤n→QAt w (f,q)→Calls Tryz.prog 16 #[.agg #[.int .i64 f.k,.string f.nm,.int .i64 f.op,q.v,q.t,.int .i64 f.lo,.int .i64 f.hi,.bool f.opn,q.s,q.r]] w fun e w'=>e=.returned (.bool (!ldF f))∧Below w.heap.size w w')∧(∀ (r:Rx) (ut us:Value) (w:World),nodR r≤n→FmsAt w ut r.test→RxsAt w us r.subs→Calls Tryz.prog 32 #[.agg #[.int .i64 r.k,ut,us]] w fun e w'=>e=.returned (.bool (ldR r))∧Below w.heap.size w w'):=by
 intro n
 induction n with
 | zero=>exact ⟨fun f q w h=>by rw [nodF_eq] at h;omega,fun r ut us w h=>by rw [nodR_eq] at h;omega⟩
 | succ n ih=>
  have cF:∀ (l:List Fm) (V:Value) (W:World),nodFs l≤n→FmsAt W V l→Calls Tryz.prog 33 #[V,.func (.func 34) #[] #[]] W fun e w'=>e=.returned (.bool (ldFs l))∧Below W.heap.size W w':=fun l V W hl hV=>
   conF_any l V W hV (fun i hi q W' hW' hq'=>loud_step _ q W' hq' (fun W2 h2=>ih.1 _ q W2 (by have:=nodFs_in l[i] (List.getElem_mem hi);omega) (hq'.below h2)))
  have cR:∀ (l:List Rx) (V:Value) (W:World),nodRs l≤n→RxsAt W V l→Calls Tryz.prog 31 #[V,.func (.func 32) #[] #[]] W fun e w'=>e=.returned (.bool (ldRs l))∧Below W.heap.size W w':=fun l V W hl hV=>
   conR_any l V W hV (fun i hi ut us W' hW' h1 h2=>ih.2 _ ut us W' (by have:=nodRs_in l[i] (List.getElem_mem hi);omega) h1 h2)
  constructor
  ·intro f q w hn hq
   rw [nodF_eq] at hn
   exact qtF_step f q w hq (fun W hW=>cF _ _ W (by omega) (hq.2.2.1.bel hW)) (fun W hW=>cR _ _ W (by omega) (hq.2.2.2.bel hW))
  ·intro r ut us w hn hT hS
   rw [nodR_eq] at hn
   exact loudR_step r ut us w hT hS (fun W hW=>cF _ _ W (by omega) (hT.bel hW)) (fun W hW=>cR _ _ W (by omega) (hS.bel hW))
theorem quiet_st (f:Fm) (q:FQ) (w:World) (hq:QAt w (f,q)):Calls Tryz.prog 16 #[.agg #[.int .i64 f.k,.string f.nm,.int .i64 f.op,q.v,q.t,.int .i64 f.lo,.int .i64 f.hi,.bool f.opn,q.s,q.r]] w fun e w'=>e=.returned (.bool (!ldF f))∧Below w.heap.size w w':=(quiet_all _).1 f q w (Nat.le_refl _) hq
theorem wpS_world {P:Program} {c:Code} {Q:Exit→Act→World→Prop} {a:Act} {w:World} (h:∀ W,W=w→c.wp P Q a W):c.wp P Q a w:=h w rfl
theorem fits_xS:xTm.v.Fits:=⟨by show (-9223372036854775808:Int)≤0;decide,by show (0:Int)≤9223372036854775807;decide,by show (-9223372036854775808:Int)≤0;decide,by show (0:Int)≤9223372036854775807;decide⟩
theorem fits_cS:c3Tm.v.Fits:=⟨by show (-9223372036854775808:Int)≤3;decide,by show (3:Int)≤9223372036854775807;decide,by show (-9223372036854775808:Int)≤0;decide,by show (0:Int)≤9223372036854775807;decide⟩
theorem tms_pair {W:World} {b:Nat} {s t:Tm} {u v:Value} (hb:b<W.heap.size) (hf:s.v.Fits) (hg:t.v.Fits) (hs:TmsAt W u s.subs) (ht:TmsAt W v t.subs) (hc:TmC W b 0 s u) (hd:TmC W b 7 t v):TmsAt W (.slice (some ⟨b,0,none⟩) 2 2) [s,t]:=by
 refine .row (b:=b) (off:=0) (ts:=[s,t]) (fun i=>if i=0 then u else v) (by simp) ?_ (by simp) hb ?_ ?_<;>intro i hi
 ·rcases i with _ | _ | i
  ·exact hf
  ·exact hg
  ·simp at hi;omega
 ·rcases i with _ | _ | i
  ·exact hc
  ·exact hd
  ·simp at hi;omega
 ·rcases i with _ | _ | i
  ·exact hs
  ·exact ht
  ·simp at hi;omega
theorem px_any (w:World):Calls Tryz.prog 21 #[] w fun e w'=>∃ pt ct,e=.returned (.agg #[.int .i64 3,.string ⟨#[112]⟩,.int .i64 0,.slice none 0 0,.slice pt 1 ct,.int .i64 0,.int .i64 0,.bool false,.slice none 0 0,.slice none 0 0])∧QAt w' (pxF,⟨.slice none 0 0,.slice pt 1 ct,.slice none 0 0,.slice none 0 0⟩)∧Below w.heap.size w w':=by
 go_enter Tryz.func21,Tryz.ntmps21
 go_wp2
 refine bodyPost_ret (by simp [results,Tryz.results21,go_sem];try rfl) rfl ?_
 refine ⟨some ⟨w.heap.size+1,0,none⟩,1,rfl,⟨nms_nil _,tms_one (u:=.slice none 0 0) (by simp) fits_xS .nil ?_,.nil,.nil⟩,by go_grown⟩
 refine ⟨?_, ?_, ?_, ?_, ?_, ?_, ?_⟩<;>simp (maxDischargeDepth:=12) [go_sem]<;>rfl
theorem soon_any (pt:Option Addr) (ct:Nat) (w:World) (h:QAt w (pxF,⟨.slice none 0 0,.slice pt 1 ct,.slice none 0 0,.slice none 0 0⟩)):Calls Tryz.prog 20 #[.int .i64 1,.int .i64 3,.agg #[.int .i64 3,.string ⟨#[112]⟩,.int .i64 0,.slice none 0 0,.slice pt 1 ct,.int .i64 0,.int .i64 0,.bool false,.slice none 0 0,.slice none 0 0]] w fun e w'=>∃ ps cs,e=.returned (.agg #[.int .i64 14,.string ⟨#[]⟩,.int .i64 0,.slice none 0 0,.slice none 0 0,.int .i64 1,.int .i64 3,.bool false,.slice ps 1 cs,.slice none 0 0])∧QAt w' (snF,⟨.slice none 0 0,.slice none 0 0,.slice ps 1 cs,.slice none 0 0⟩)∧Below w.heap.size w w':=by
 go_enter Tryz.func20,Tryz.ntmps20
 go_wp2
 refine bodyPost_ret (by simp [results,Tryz.results20,go_sem];try rfl) rfl ?_
 refine ⟨some ⟨w.heap.size+2,0,none⟩,1,rfl,⟨nms_nil _,.nil,fms_one (f:=pxF) (q:=⟨.slice none 0 0,.slice pt 1 ct,.slice none 0 0,.slice none 0 0⟩) (by simp) (h.below (by go_grown)) ?_,.nil⟩,by go_grown⟩
 refine ⟨?_, ?_, ?_, ?_, ?_, ?_, ?_, ?_, ?_, ?_⟩<;>simp (maxDischargeDepth:=12) [go_sem]<;>rfl
theorem sv_reach (W:World) (b:Nat) (h:QAt W (nxF,⟨.slice none 0 0,.slice none 0 0,.slice (some ⟨b,0,none⟩) 1 1,.slice none 0 0⟩)):Calls Tryz.prog 10 #[.agg #[.int .i64 12,.string ⟨#[]⟩,.int .i64 0,.slice none 0 0,.slice none 0 0,.int .i64 0,.int .i64 5,.bool false,.slice (some ⟨b,0,none⟩) 1 1,.slice none 0 0]] W fun e w'=>e=.returned (.tuple #[.int .i64 8,.int .i64 0])∧Below W.heap.size W w':=(reach_st nxF _ W h).mono fun e w' ⟨h1,h2⟩=>⟨by rw [h1,sr_nx,se_nx],h2⟩
theorem sv_not (W:World) (b:Nat) (h:QAt W (ntF,⟨.slice none 0 0,.slice none 0 0,.slice (some ⟨b,0,none⟩) 1 1,.slice none 0 0⟩)):Calls Tryz.prog 12 #[.agg #[.int .i64 7,.string ⟨#[]⟩,.int .i64 0,.slice none 0 0,.slice none 0 0,.int .i64 0,.int .i64 0,.bool false,.slice (some ⟨b,0,none⟩) 1 1,.slice none 0 0]] W fun e w'=>e=.returned (.int .i64 100)∧Below W.heap.size W w':=(check_st ntF _ W h).mono fun e w' ⟨h1,h2⟩=>⟨by rw [h1,se_nt],h2⟩
theorem sv_and (W:World) (b:Nat) (h:QAt W (andF pxF ntF,⟨.slice none 0 0,.slice none 0 0,.slice (some ⟨b,0,none⟩) 2 2,.slice none 0 0⟩)):Calls Tryz.prog 12 #[.agg #[.int .i64 8,.string ⟨#[]⟩,.int .i64 0,.slice none 0 0,.slice none 0 0,.int .i64 0,.int .i64 0,.bool false,.slice (some ⟨b,0,none⟩) 2 2,.slice none 0 0]] W fun e w'=>e=.returned (.int .i64 0)∧Below W.heap.size W w':=(check_st (andF pxF ntF) _ W h).mono fun e w' ⟨h1,h2⟩=>⟨by rw [h1,se_pn],h2⟩
theorem sv_quiet (W:World) (pt:Option Addr) (ct:Nat) (h:QAt W (pxF,⟨.slice none 0 0,.slice pt 1 ct,.slice none 0 0,.slice none 0 0⟩)):Calls Tryz.prog 16 #[.agg #[.int .i64 3,.string ⟨#[112]⟩,.int .i64 0,.slice none 0 0,.slice pt 1 ct,.int .i64 0,.int .i64 0,.bool false,.slice none 0 0,.slice none 0 0]] W fun e w'=>e=.returned (.bool true)∧Below W.heap.size W w':=(quiet_st pxF _ W h).mono fun e w' ⟨h1,h2⟩=>⟨by rw [h1,show (!ldF pxF)=true by kernel_rfl],h2⟩
theorem sv_pp (W:World) (pt1 pt2:Option Addr) (ct1 ct2:Nat) (h:QAt W (pxF,⟨.slice none 0 0,.slice pt1 1 ct1,.slice none 0 0,.slice none 0 0⟩)) (h':QAt W (pxF,⟨.slice none 0 0,.slice pt2 1 ct2,.slice none 0 0,.slice none 0 0⟩)):Calls Tryz.prog 14 #[.agg #[.int .i64 3,.string ⟨#[112]⟩,.int .i64 0,.slice none 0 0,.slice pt1 1 ct1,.int .i64 0,.int .i64 0,.bool false,.slice none 0 0,.slice none 0 0],.agg #[.int .i64 3,.string ⟨#[112]⟩,.int .i64 0,.slice none 0 0,.slice pt2 1 ct2,.int .i64 0,.int .i64 0,.bool false,.slice none 0 0,.slice none 0 0]] W fun e w'=>e=.returned (.int .i64 1)∧Below W.heap.size W w':=(case_st pxF pxF _ _ W h h').mono fun e w' ⟨h1,h2⟩=>⟨by rw [h1,sc_pp],h2⟩
theorem sv_pn (W:World) (pt1:Option Addr) (ct1 b:Nat) (h:QAt W (pxF,⟨.slice none 0 0,.slice pt1 1 ct1,.slice none 0 0,.slice none 0 0⟩)) (h':QAt W (ntF,⟨.slice none 0 0,.slice none 0 0,.slice (some ⟨b,0,none⟩) 1 1,.slice none 0 0⟩)):Calls Tryz.prog 14 #[.agg #[.int .i64 3,.string ⟨#[112]⟩,.int .i64 0,.slice none 0 0,.slice pt1 1 ct1,.int .i64 0,.int .i64 0,.bool false,.slice none 0 0,.slice none 0 0],.agg #[.int .i64 7,.string ⟨#[]⟩,.int .i64 0,.slice none 0 0,.slice none 0 0,.int .i64 0,.int .i64 0,.bool false,.slice (some ⟨b,0,none⟩) 1 1,.slice none 0 0]] W fun e w'=>e=.returned (.int .i64 2)∧Below W.heap.size W w':=(case_st pxF ntF _ _ W h h').mono fun e w' ⟨h1,h2⟩=>⟨by rw [h1,sc_pn],h2⟩
theorem sv_pl (W:World) (pt1:Option Addr) (ct1 b:Nat) (h:QAt W (pxF,⟨.slice none 0 0,.slice pt1 1 ct1,.slice none 0 0,.slice none 0 0⟩)) (h':QAt W (ltF,⟨.slice none 0 0,.slice (some ⟨b,0,none⟩) 2 2,.slice none 0 0,.slice none 0 0⟩)):Calls Tryz.prog 14 #[.agg #[.int .i64 3,.string ⟨#[112]⟩,.int .i64 0,.slice none 0 0,.slice pt1 1 ct1,.int .i64 0,.int .i64 0,.bool false,.slice none 0 0,.slice none 0 0],.agg #[.int .i64 5,.string ⟨#[]⟩,.int .i64 0,.slice none 0 0,.slice (some ⟨b,0,none⟩) 2 2,.int .i64 0,.int .i64 0,.bool false,.slice none 0 0,.slice none 0 0]] W fun e w'=>e=.returned (.int .i64 3)∧Below W.heap.size W w':=(case_st pxF ltF _ _ W h h').mono fun e w' ⟨h1,h2⟩=>⟨by rw [h1,sc_pl],h2⟩
theorem sv_np (W:World) (pt1:Option Addr) (ct1 b:Nat) (h:QAt W (ntF,⟨.slice none 0 0,.slice none 0 0,.slice (some ⟨b,0,none⟩) 1 1,.slice none 0 0⟩)) (h':QAt W (pxF,⟨.slice none 0 0,.slice pt1 1 ct1,.slice none 0 0,.slice none 0 0⟩)):Calls Tryz.prog 14 #[.agg #[.int .i64 7,.string ⟨#[]⟩,.int .i64 0,.slice none 0 0,.slice none 0 0,.int .i64 0,.int .i64 0,.bool false,.slice (some ⟨b,0,none⟩) 1 1,.slice none 0 0],.agg #[.int .i64 3,.string ⟨#[112]⟩,.int .i64 0,.slice none 0 0,.slice pt1 1 ct1,.int .i64 0,.int .i64 0,.bool false,.slice none 0 0,.slice none 0 0]] W fun e w'=>e=.returned (.int .i64 0)∧Below W.heap.size W w':=(case_st ntF pxF _ _ W h h').mono fun e w' ⟨h1,h2⟩=>⟨by rw [h1,sc_np],h2⟩
theorem live10_any (w:World):Calls Tryz.prog 9 #[] w fun e w'=>e=.returned (.bool true)∧Below w.heap.size w w':=by
 go_enter Tryz.func9,Tryz.ntmps9
 go_wp2_with fail
 refine (px_any _).mono ?_
 rintro r w1 ⟨pt0,ct0,rfl,hp0,hb0⟩
 have K1:Below w.heap.size w w1:=by first | exact hb0 | exact Below.trans (by go_grown) (hb0.mono (by simp))
 clear hb0
 go_wp2_with fail
 refine (soon_any pt0 ct0 _ (hp0.below (by go_grown))).mono ?_
 rintro r w2 ⟨ps,cs,rfl,hs0,hb0⟩
 have K2:Below w.heap.size w w2:=K1.trans (hb0.mono K1.size)
 have HS0:Hid (QAt w2 (snF,⟨.slice none 0 0,.slice none 0 0,.slice ps 1 cs,.slice none 0 0⟩)):=hs0
 clear hb0 hp0 hs0 K1
 go_wp2_with fail
 refine (sv_reach _ w2.heap.size ⟨nms_nil _,.nil,fms_one (f:=snF) (q:=⟨.slice none 0 0,.slice none 0 0,.slice ps 1 cs,.slice none 0 0⟩) (by first | (simp;done) | (simp;omega)) (HS0.out.below (by go_grown)) ?_,.nil⟩).mono ?_
 case refine_1=>refine ⟨?_, ?_, ?_, ?_, ?_, ?_, ?_, ?_, ?_, ?_⟩<;>simp (maxDischargeDepth:=12) [go_sem]<;>rfl
 rintro r w3 ⟨rfl,hb0⟩
 have K3:Below w.heap.size w w3:=(K2.trans (Below.mono (B:=w2.heap.size) (by go_grown) K2.size)).trans (hb0.mono (by have:=K2.size;simp;omega))
 clear hb0 HS0 K2
 go_wp2_with fail
 refine (px_any _).mono ?_
 rintro r w4 ⟨pt0,ct0,rfl,hp0,hb0⟩
 have K4:Below w.heap.size w w4:=K3.trans (hb0.mono K3.size)
 have HP0:Hid (QAt w4 (pxF,⟨.slice none 0 0,.slice pt0 1 ct0,.slice none 0 0,.slice none 0 0⟩)):=hp0
 clear hb0 hp0 K3
 go_upto_region 4 with fail
 refine wpS_world ?_
 intro W0 hW0
 have kA:Below w4.heap.size w4 W0:=by rw [hW0];go_grown
 have l0:w4.heap.size<W0.heap.size:=by rw [hW0];first | (simp;done) | (simp;omega)
 have l1:w4.heap.size+1<W0.heap.size:=by rw [hW0];first | (simp;done) | (simp;omega)
 have l2:w4.heap.size+2<W0.heap.size:=by rw [hW0];first | (simp;done) | (simp;omega)
 have l3:w4.heap.size+3<W0.heap.size:=by rw [hW0];first | (simp;done) | (simp;omega)
 have y0:W0.cell? ⟨w4.heap.size+1,0,none⟩=some (.int .i64 7):=by rw [hW0];simp (maxDischargeDepth:=12) [go_sem]
 have y1:W0.cell? ⟨w4.heap.size+1,1,none⟩=some (.string ⟨#[]⟩):=by rw [hW0];simp (maxDischargeDepth:=12) [go_sem]
 have y2:W0.cell? ⟨w4.heap.size+1,2,none⟩=some (.int .i64 0):=by rw [hW0];simp (maxDischargeDepth:=12) [go_sem]
 have y3:W0.cell? ⟨w4.heap.size+1,3,none⟩=some (.slice none 0 0):=by rw [hW0];simp (maxDischargeDepth:=12) [go_sem]
 have y4:W0.cell? ⟨w4.heap.size+1,4,none⟩=some (.slice none 0 0):=by rw [hW0];simp (maxDischargeDepth:=12) [go_sem]
 have y5:W0.cell? ⟨w4.heap.size+1,5,none⟩=some (.int .i64 0):=by rw [hW0];simp (maxDischargeDepth:=12) [go_sem]
 have y6:W0.cell? ⟨w4.heap.size+1,6,none⟩=some (.int .i64 0):=by rw [hW0];simp (maxDischargeDepth:=12) [go_sem]
 have y7:W0.cell? ⟨w4.heap.size+1,7,none⟩=some (.bool false):=by rw [hW0];simp (maxDischargeDepth:=12) [go_sem]
 have y8:W0.cell? ⟨w4.heap.size+1,8,none⟩=some (.slice (some ⟨w4.heap.size,0,none⟩) 1 1):=by rw [hW0];simp (maxDischargeDepth:=12) [go_sem]
 have y9:W0.cell? ⟨w4.heap.size+1,9,none⟩=some (.slice none 0 0):=by rw [hW0];simp (maxDischargeDepth:=12) [go_sem]
 have z0:W0.cell? ⟨w4.heap.size+3,0,none⟩=some (.int .i64 5):=by rw [hW0];simp (maxDischargeDepth:=12) [go_sem]
 have z1:W0.cell? ⟨w4.heap.size+3,1,none⟩=some (.string ⟨#[]⟩):=by rw [hW0];simp (maxDischargeDepth:=12) [go_sem]
 have z2:W0.cell? ⟨w4.heap.size+3,2,none⟩=some (.int .i64 0):=by rw [hW0];simp (maxDischargeDepth:=12) [go_sem]
 have z3:W0.cell? ⟨w4.heap.size+3,3,none⟩=some (.slice none 0 0):=by rw [hW0];simp (maxDischargeDepth:=12) [go_sem]
 have z4:W0.cell? ⟨w4.heap.size+3,4,none⟩=some (.slice (some ⟨w4.heap.size+2,0,none⟩) 2 2):=by rw [hW0];simp (maxDischargeDepth:=12) [go_sem]
 have z5:W0.cell? ⟨w4.heap.size+3,5,none⟩=some (.int .i64 0):=by rw [hW0];simp (maxDischargeDepth:=12) [go_sem]
 have z6:W0.cell? ⟨w4.heap.size+3,6,none⟩=some (.int .i64 0):=by rw [hW0];simp (maxDischargeDepth:=12) [go_sem]
 have z7:W0.cell? ⟨w4.heap.size+3,7,none⟩=some (.bool false):=by rw [hW0];simp (maxDischargeDepth:=12) [go_sem]
 have z8:W0.cell? ⟨w4.heap.size+3,8,none⟩=some (.slice none 0 0):=by rw [hW0];simp (maxDischargeDepth:=12) [go_sem]
 have z9:W0.cell? ⟨w4.heap.size+3,9,none⟩=some (.slice none 0 0):=by rw [hW0];simp (maxDischargeDepth:=12) [go_sem]
 have hN:QAt W0 (ntF,⟨.slice none 0 0,.slice none 0 0,.slice (some ⟨w4.heap.size,0,none⟩) 1 1,.slice none 0 0⟩):=⟨nms_nil _,.nil,fms_one (f:=pxF) (q:=⟨.slice none 0 0,.slice pt0 1 ct0,.slice none 0 0,.slice none 0 0⟩) l0 (HP0.out.below kA) (by rw [hW0];refine ⟨?_, ?_, ?_, ?_, ?_, ?_, ?_, ?_, ?_, ?_⟩<;>simp (maxDischargeDepth:=12) [go_sem]<;>rfl),.nil⟩
 have hT:QAt W0 (ltF,⟨.slice none 0 0,.slice (some ⟨w4.heap.size+2,0,none⟩) 2 2,.slice none 0 0,.slice none 0 0⟩):=⟨nms_nil _,tms_pair (u:=.slice none 0 0) (v:=.slice none 0 0) l2 fits_xS fits_cS .nil .nil (by rw [hW0];refine ⟨?_, ?_, ?_, ?_, ?_, ?_, ?_⟩<;>simp (maxDischargeDepth:=12) [go_sem]<;>rfl) (by rw [hW0];refine ⟨?_, ?_, ?_, ?_, ?_, ?_, ?_⟩<;>simp (maxDischargeDepth:=12) [go_sem]<;>rfl),.nil,.nil⟩
 clear hW0
 have K0:Below w.heap.size w W0:=K4.trans (kA.mono K4.size)
 have HN:Hid (∀ W:World,Below W0.heap.size W0 W→QAt W (ntF,⟨.slice none 0 0,.slice none 0 0,.slice (some ⟨w4.heap.size,0,none⟩) 1 1,.slice none 0 0⟩)):=fun W hW=>hN.below hW
 have HT:Hid (∀ W:World,Below W0.heap.size W0 W→QAt W (ltF,⟨.slice none 0 0,.slice (some ⟨w4.heap.size+2,0,none⟩) 2 2,.slice none 0 0,.slice none 0 0⟩)):=fun W hW=>hT.below hW
 clear hN hT kA K4 HP0 l0 l2
 go_region_held3 (fun W=>W.cell? ⟨w4.heap.size+1,0,none⟩=some (.int .i64 7)∧W.cell? ⟨w4.heap.size+1,1,none⟩=some (.string ⟨#[]⟩)∧W.cell? ⟨w4.heap.size+1,2,none⟩=some (.int .i64 0)∧W.cell? ⟨w4.heap.size+1,3,none⟩=some (.slice none 0 0)∧W.cell? ⟨w4.heap.size+1,4,none⟩=some (.slice none 0 0)∧W.cell? ⟨w4.heap.size+1,5,none⟩=some (.int .i64 0)∧W.cell? ⟨w4.heap.size+1,6,none⟩=some (.int .i64 0)∧W.cell? ⟨w4.heap.size+1,7,none⟩=some (.bool false)∧W.cell? ⟨w4.heap.size+1,8,none⟩=some (.slice (some ⟨w4.heap.size,0,none⟩) 1 1)∧W.cell? ⟨w4.heap.size+1,9,none⟩=some (.slice none 0 0)∧W.cell? ⟨w4.heap.size+3,0,none⟩=some (.int .i64 5)∧W.cell? ⟨w4.heap.size+3,1,none⟩=some (.string ⟨#[]⟩)∧W.cell? ⟨w4.heap.size+3,2,none⟩=some (.int .i64 0)∧W.cell? ⟨w4.heap.size+3,3,none⟩=some (.slice none 0 0)∧W.cell? ⟨w4.heap.size+3,4,none⟩=some (.slice (some ⟨w4.heap.size+2,0,none⟩) 2 2)∧W.cell? ⟨w4.heap.size+3,5,none⟩=some (.int .i64 0)∧W.cell? ⟨w4.heap.size+3,6,none⟩=some (.int .i64 0)∧W.cell? ⟨w4.heap.size+3,7,none⟩=some (.bool false)∧W.cell? ⟨w4.heap.size+3,8,none⟩=some (.slice none 0 0)∧W.cell? ⟨w4.heap.size+3,9,none⟩=some (.slice none 0 0)) (exact ⟨bcl (n:=W0.heap.size) (by go_grown) y0 l1,bcl (n:=W0.heap.size) (by go_grown) y1 l1,bcl (n:=W0.heap.size) (by go_grown) y2 l1,bcl (n:=W0.heap.size) (by go_grown) y3 l1,bcl (n:=W0.heap.size) (by go_grown) y4 l1,bcl (n:=W0.heap.size) (by go_grown) y5 l1,bcl (n:=W0.heap.size) (by go_grown) y6 l1,bcl (n:=W0.heap.size) (by go_grown) y7 l1,bcl (n:=W0.heap.size) (by go_grown) y8 l1,bcl (n:=W0.heap.size) (by go_grown) y9 l1,bcl (n:=W0.heap.size) (by go_grown) z0 l3,bcl (n:=W0.heap.size) (by go_grown) z1 l3,bcl (n:=W0.heap.size) (by go_grown) z2 l3,bcl (n:=W0.heap.size) (by go_grown) z3 l3,bcl (n:=W0.heap.size) (by go_grown) z4 l3,bcl (n:=W0.heap.size) (by go_grown) z5 l3,bcl (n:=W0.heap.size) (by go_grown) z6 l3,bcl (n:=W0.heap.size) (by go_grown) z7 l3,bcl (n:=W0.heap.size) (by go_grown) z8 l3,bcl (n:=W0.heap.size) (by go_grown) z9 l3⟩)
  (first
   | (go_at_call_of 12 (Value.int .i64 7);refine (sv_not _ w4.heap.size (HN.out _ (by go_grown))).mono ?_;rintro e_ u20 ⟨rfl,hb20⟩;obtain ⟨hX20,hn20⟩:=bgX (n:=W0.heap.size) (W0:=W0) (by go_grown) (by go_size) hb20)
   | (go_at_call 21;(fail_if_success (have hh:=hp1));refine (px_any _).mono ?_;rintro e_ v1 ⟨pt1,ct1,rfl,hp1,hb1⟩;obtain ⟨hX1,hn1⟩:=bgX (n:=W0.heap.size) (W0:=W0) (by go_grown) (by go_size) hb1)
   | (go_at_call_of 12 (Value.int .i64 8);refine (sv_and _ _ (fits_and (q:=⟨.slice none 0 0,.slice pt1 1 ct1,.slice none 0 0,.slice none 0 0⟩) (r:=⟨.slice none 0 0,.slice none 0 0,.slice (some ⟨w4.heap.size,0,none⟩) 1 1,.slice none 0 0⟩) (by first | (simp;done) | (simp;omega)) (hp1.below (by go_grown)) (HN.out _ (by go_grown)) (by refine ⟨?_, ?_, ?_, ?_, ?_, ?_, ?_, ?_, ?_, ?_⟩<;>simp (maxDischargeDepth:=12) [go_sem]<;>rfl) (by refine ⟨?_, ?_, ?_, ?_, ?_, ?_, ?_, ?_, ?_, ?_⟩<;>simp (maxDischargeDepth:=12) [go_sem]<;>rfl))).mono ?_;rintro e_ u21 ⟨rfl,hb21⟩;obtain ⟨hX21,hn21⟩:=bgX (n:=W0.heap.size) (W0:=W0) (by go_grown) (by go_size) hb21)
   | (go_at_call 21;(fail_if_success (have hh:=hp2));refine (px_any _).mono ?_;rintro e_ v2 ⟨pt2,ct2,rfl,hp2,hb2⟩;obtain ⟨hX2,hn2⟩:=bgX (n:=W0.heap.size) (W0:=W0) (by go_grown) (by go_size) hb2)
   | (go_at_call 21;(fail_if_success (have hh:=hp3));refine (px_any _).mono ?_;rintro e_ v3 ⟨pt3,ct3,rfl,hp3,hb3⟩;replace hp2:=hp2.below (bgX (n:=v2.heap.size) (W0:=v2) (by go_grown) (by go_size) hb3).1;obtain ⟨hX3,hn3⟩:=bgX (n:=W0.heap.size) (W0:=W0) (by go_grown) (by go_size) hb3)
   | (go_at_call_of 14 (Value.slice pt2 1 ct2);refine (sv_pp _ pt2 pt3 ct2 ct3 (hp2.below (by go_grown)) (hp3.below (by go_grown))).mono ?_;rintro e_ u22 ⟨rfl,hb22⟩;obtain ⟨hX22,hn22⟩:=bgX (n:=W0.heap.size) (W0:=W0) (by go_grown) (by go_size) hb22)
   | (go_at_call 21;(fail_if_success (have hh:=hp4));refine (px_any _).mono ?_;rintro e_ v4 ⟨pt4,ct4,rfl,hp4,hb4⟩;obtain ⟨hX4,hn4⟩:=bgX (n:=W0.heap.size) (W0:=W0) (by go_grown) (by go_size) hb4)
   | (go_at_call_of 14 (Value.slice pt4 1 ct4);refine (sv_pn _ pt4 ct4 w4.heap.size (hp4.below (by go_grown)) (HN.out _ (by go_grown))).mono ?_;rintro e_ u23 ⟨rfl,hb23⟩;obtain ⟨hX23,hn23⟩:=bgX (n:=W0.heap.size) (W0:=W0) (by go_grown) (by go_size) hb23)
   | (go_at_call 21;(fail_if_success (have hh:=hp5));refine (px_any _).mono ?_;rintro e_ v5 ⟨pt5,ct5,rfl,hp5,hb5⟩;obtain ⟨hX5,hn5⟩:=bgX (n:=W0.heap.size) (W0:=W0) (by go_grown) (by go_size) hb5)
   | (go_at_call_of 14 (Value.slice pt5 1 ct5);refine (sv_pl _ pt5 ct5 (w4.heap.size+2) (hp5.below (by go_grown)) (HT.out _ (by go_grown))).mono ?_;rintro e_ u24 ⟨rfl,hb24⟩;obtain ⟨hX24,hn24⟩:=bgX (n:=W0.heap.size) (W0:=W0) (by go_grown) (by go_size) hb24)
   | (go_at_call 21;(fail_if_success (have hh:=hp6));refine (px_any _).mono ?_;rintro e_ v6 ⟨pt6,ct6,rfl,hp6,hb6⟩;obtain ⟨hX6,hn6⟩:=bgX (n:=W0.heap.size) (W0:=W0) (by go_grown) (by go_size) hb6)
   | (go_at_call_of 14 (Value.slice pt6 1 ct6);refine (sv_np _ pt6 ct6 w4.heap.size (HN.out _ (by go_grown)) (hp6.below (by go_grown))).mono ?_;rintro e_ u25 ⟨rfl,hb25⟩;obtain ⟨hX25,hn25⟩:=bgX (n:=W0.heap.size) (W0:=W0) (by go_grown) (by go_size) hb25)
   | (go_at_call 21;(fail_if_success (have hh:=hp7));refine (px_any _).mono ?_;rintro e_ v7 ⟨pt7,ct7,rfl,hp7,hb7⟩;obtain ⟨hX7,hn7⟩:=bgX (n:=W0.heap.size) (W0:=W0) (by go_grown) (by go_size) hb7)
   | (go_at_call 16;refine (sv_quiet _ pt7 ct7 (hp7.below (by go_grown))).mono ?_;rintro e_ u26 ⟨rfl,hb26⟩;obtain ⟨hX26,hn26⟩:=bgX (n:=W0.heap.size) (W0:=W0) (by go_grown) (by go_size) hb26))
 all_goals
  go_wp2
  go_ret
  exact ⟨rfl,K0.trans (Below.mono (B:=W0.heap.size) (by first | assumption | go_grown) K0.size)⟩
def putN (x:ByteArray):List ByteArray→List ByteArray
 | []=>[x]
 | y::l=>if y.data.toList<x.data.toList then y::putN x l else if y=x then y::l else x::y::l
theorem putN_at (x:ByteArray):∀ (l:List ByteArray) (j:Nat),j≤l.length→(∀ i (h:i<l.length),i<j→l[i].data.toList<x.data.toList)→(∀ h:j<l.length,¬ l[j].data.toList<x.data.toList∧¬ l[j]=x)→putN x l=l.take j++[x]++l.drop j
 | [],j,h,_,_=>by have:j=0:=by simpa using h
                  subst this;rfl
 | y::l,0,_,_,h=>by
  have h0:=h (by simp)
  simp only [List.getElem_cons_zero] at h0
  unfold putN
  rw [if_neg h0.1,if_neg h0.2]
  rfl
 | y::l,j+1,hj,h1,h2=>by
  have h0:=h1 0 (by simp) (by omega)
  simp only [List.getElem_cons_zero] at h0
  have ih:=putN_at x l j (by simpa using hj) (fun i h hi=>by have:=h1 (i+1) (by simpa using h) (by omega);simpa using this) (fun h=>by have:=h2 (by simpa using h);simpa using this)
  unfold putN
  rw [if_pos h0,ih]
  simp
theorem putN_in (x:ByteArray):∀ (l:List ByteArray) (j:Nat) (hj:j<l.length),(∀ i (h:i<l.length),i<j→l[i].data.toList<x.data.toList)→¬ l[j].data.toList<x.data.toList→l[j]=x→putN x l=l
 | [],j,h,_,_,_=>by simp at h
 | y::l,0,_,_,h,h2=>by
  simp only [List.getElem_cons_zero] at h h2
  unfold putN
  rw [if_neg h,if_pos h2]
 | y::l,j+1,hj,h1,h2,h3=>by
  have h0:=h1 0 (by simp) (by omega)
  simp only [List.getElem_cons_zero] at h0
  have ih:=putN_in x l j (by simpa using hj) (fun i h hi=>by have:=h1 (i+1) (by simpa using h) (by omega);simpa using this) (by simpa using h2) (by simpa using h3)
  unfold putN
  rw [if_pos h0,ih]
theorem putN_len (x:ByteArray):∀ l,(putN x l).length≤l.length+1
 | []=>by simp [putN]
 | y::l=>by
  have ih:=putN_len x l
  unfold putN
  split
  ·simp;omega
  ·split<;>simp
theorem putN_mem (x z:ByteArray):∀ l,z∈putN x l↔z=x∨z∈l
 | []=>by simp [putN]
 | y::l=>by
  have ih:=putN_mem x z l
  unfold putN
  split
  ·rw [List.mem_cons,ih,List.mem_cons]
   constructor
   ·rintro (h | h | h)
    ·exact Or.inr (Or.inl h)
    ·exact Or.inl h
    ·exact Or.inr (Or.inr h)
   ·rintro (h | h | h)
    ·exact Or.inr (Or.inl h)
    ·exact Or.inl h
    ·exact Or.inr (Or.inr h)
  ·split
   ·rename_i h;subst h;simp
   ·simp
theorem bytes_tri (x y:ByteArray) (h1:¬ x.data.toList<y.data.toList) (h2:¬ x=y):y.data.toList<x.data.toList:=by
 rcases List.le_total y.data.toList x.data.toList with h | h
 ·by_cases e:y.data.toList=x.data.toList
  ·exact absurd (ByteArray.ext (Array.ext' e.symm)) h2
  ·exact Decidable.byContradiction fun hn=>e (List.le_antisymm h (List.not_lt.1 hn))
 ·by_cases e:y.data.toList=x.data.toList
  ·exact absurd (ByteArray.ext (Array.ext' e.symm)) h2
  ·exact absurd (Decidable.byContradiction fun hn=>e (List.le_antisymm (List.not_lt.1 hn) h)) h1
theorem putN_up (x:ByteArray):∀ l,Rises l→Rises (putN x l)
 | [],_=>by simp [putN,Rises]
 | y::l,h=>by
  obtain ⟨h1,h2⟩:=List.pairwise_cons.1 h
  have ih:=putN_up x l h2
  unfold putN
  split
  ·rename_i hlt
   refine List.pairwise_cons.2 ⟨fun z hz=> ?_,ih⟩
   rcases (putN_mem x z l).1 hz with e | e
   ·subst e;exact hlt
   ·exact h1 z e
  ·rename_i hlt
   split
   ·exact h
   ·rename_i hne
    have hxy:=bytes_tri y x hlt hne
    refine List.pairwise_cons.2 ⟨fun z hz=> ?_,h⟩
    rcases List.mem_cons.1 hz with e | e
    ·subst e;exact hxy
    ·exact List.lt_trans hxy (h1 z e)
theorem rises_eq:∀ {a b:List ByteArray},Rises a→Rises b→(∀ x,x∈a↔x∈b)→a=b
 | [],[],_,_,_=>rfl
 | [],y::l,_,_,h=>absurd ((h y).2 (by simp)) (by simp)
 | y::l,[],_,_,h=>absurd ((h y).1 (by simp)) (by simp)
 | x::a,y::b,ha,hb,h=>by
  obtain ⟨a1,a2⟩:=List.pairwise_cons.1 ha
  obtain ⟨b1,b2⟩:=List.pairwise_cons.1 hb
  have e:x=y:=by
   rcases List.mem_cons.1 ((h x).1 (by simp)) with e | e
   ·exact e
   ·rcases List.mem_cons.1 ((h y).2 (by simp)) with e' | e'
    ·exact e'.symm
    ·exact absurd (List.lt_trans (b1 x e) (a1 y e')) (List.lt_irrefl _)
  subst e
  congr 1
  refine rises_eq a2 b2 fun z=>⟨fun hz=> ?_,fun hz=> ?_⟩
  ·rcases List.mem_cons.1 ((h z).1 (List.mem_cons_of_mem _ hz)) with e | e
   ·subst e;exact absurd (a1 _ hz) (List.lt_irrefl _)
   ·exact e
  ·rcases List.mem_cons.1 ((h z).2 (List.mem_cons_of_mem _ hz)) with e | e
   ·subst e;exact absurd (b1 _ hz) (List.lt_irrefl _)
   ·exact e
def putsN (L M:List ByteArray):List ByteArray:=M.foldl (fun l x=>putN x l) L
theorem putsN_snoc (L M:List ByteArray) (x:ByteArray):putsN L (M++[x])=putN x (putsN L M):=by unfold putsN;rw [List.foldl_append];rfl
theorem putsN_up:∀ (M L:List ByteArray),Rises L→Rises (putsN L M)
 | [],L,h=>h
 | x::M,L,h=>putsN_up M (putN x L) (putN_up x L h)
theorem putsN_mem (z:ByteArray):∀ (M L:List ByteArray),z∈putsN L M↔z∈L∨z∈M
 | [],L=>by simp [putsN]
 | x::M,L=>by
  have ih:=putsN_mem z M (putN x L)
  show z∈putsN (putN x L) M↔_
  rw [ih,putN_mem,List.mem_cons]
  constructor
  ·rintro ((h | h) | h)
   ·exact Or.inr (Or.inl h)
   ·exact Or.inl h
   ·exact Or.inr (Or.inr h)
  ·rintro (h | h | h)
   ·exact Or.inl (Or.inr h)
   ·exact Or.inl (Or.inl h)
   ·exact Or.inr h
theorem putsN_len:∀ (M L:List ByteArray),(putsN L M).length≤L.length+M.length
 | [],L=>by simp [putsN]
 | x::M,L=>by
  have ih:=putsN_len M (putN x L)
  have h:=putN_len x L
  show (putsN (putN x L) M).length≤_
  simp
  omega
theorem nms_sub {w:World} {g j m c:Nat} {M:List ByteArray} (hg:g<w.heap.size) (h:∀ i (hi:i<M.length),w.cell? ⟨g,i,none⟩=some (.string M[i])) (hm:j+m≤M.length):SrcA w 1 (.slice (some ⟨g,j,none⟩) m c) m (((M.drop j).take m).map Value.string):=by
 refine Or.inr ⟨_,c,rfl,by simp;omega,fun i x hx=> ?_⟩
 rw [List.getElem?_map] at hx
 by_cases hi:i<m
 ·rw [List.getElem?_take,if_pos hi,List.getElem?_drop,List.getElem?_eq_getElem (by omega)] at hx
  simp only [Option.map_some,Option.some.injEq] at hx
  rw [← hx]
  rw [Addr.add_lit]
  exact h (j+i) (by omega)
 ·rw [List.getElem?_take,if_neg hi] at hx
  cases hx
theorem less_lt (a b:ByteArray):Op.bytesLess a.toList b.toList=decide (a.data.toList<b.data.toList):=by rw [bytesLess_eq,ByteArray.toList_eq,ByteArray.toList_eq]
theorem eq_bytes (a b:ByteArray):(a.toList==b.toList)=decide (a=b):=by
 rw [Bool.eq_iff_iff,beq_iff_eq,decide_eq_true_eq,ByteArray.toList_eq,ByteArray.toList_eq]
 exact ⟨fun h=>ByteArray.ext (Array.ext' h),fun h=>by rw [h]⟩
theorem slice_ofA {w:World} {B e size n:Nat} {v:Value} {xs:List Value} (h:w.ownsRow B e size v n xs):∃ p m c,v=.slice p m c:=by
 obtain ⟨-,⟨rfl, -⟩ | ⟨g,cap,cur,rfl, -⟩⟩:=h
 ·exact ⟨_,_,_,rfl⟩
 ·exact ⟨_,_,_,rfl⟩
theorem rput_any (B:Nat) (V:Value) (L:List ByteArray) (x:ByteArray) (w:World) (hB:B≤w.heap.size) (hO:OwnN B V L w) (lv:L.length≤1000000000):
  Calls Tryz.prog 71 #[V,.string x] w fun e w'=>∃ v,e=.returned v∧OwnN B v (putN x L) w'∧Below w.heap.size w w':=by
 obtain ⟨i0,hi,hz0,hz1,hz2⟩:=info_parts inStA
 have HO:Hid (OwnN B V L w):=hO
 obtain ⟨n,en⟩:∃ n:Nat,Hid (L.length=n):=⟨_,rfl⟩
 obtain ⟨-,⟨rfl,hk0⟩ | ⟨g,cap,cur,rfl,hg1,hg2,hn, -,hn2,hn3⟩⟩:=(show World.ownsRow _ _ _ _ _ _ _ from hO)
 ·have hL:L=[]:=List.eq_nil_of_length_eq_zero hk0
  subst hL
  clear hk0 hO lv
  obtain ⟨j,ej⟩:∃ j:Nat,Hid (j=0):=⟨0,rfl⟩
  have en0:n≤0:=by have:=en.out;simp at this;omega
  have ej0:j≤0:=by have:=ej.out;omega
  have hP:Hid (putN x []=([]:List ByteArray).take j++[x]++([]:List ByteArray).drop j):=by rw [ej.out];rfl
  have S1:Hid (SrcA w 1 (.slice none 0 0) j ((([]:List ByteArray).take j).map Value.string)):=Or.inl ⟨_,_,rfl,ej.out,by simp⟩
  have S2:Hid (∀ W:World,Below w.heap.size w W→SrcA W 1 (.slice none 0 0) (n - j) ((([]:List ByteArray).drop j).map Value.string)):=fun W _=>Or.inl ⟨_,_,rfl,by omega,by simp⟩
  go_enter Tryz.func71,Tryz.ntmps71
  go_wp2
  go_loopw [5] (fun a wx=>a=.int .i64 0∧wx=w) (fun _ _=>0)
  case atStart=>exact ⟨rfl,rfl⟩
  case round=>
   obtain ⟨rfl,rfl⟩:=hrel
   go_wp2_with (at_builtin;refine wpList_append_srcA rfl _ _ 22 rfl wr.heap.size 9 i0 (.string ByteArray.empty) 1 16 Tryz.underlying22 hi hz0 hz1 hz2 rfl (by decide) (.slice none 0 0) 0 [] rfl (World.ownsRow_nil _ _ _ _) (.slice none 0 0) j ((([]:List ByteArray).take j).map Value.string) rfl S1.out ?aa1 ?aa2 ?aa3 ?aa4 ?_)
   try (case aa1=>(intro u hu;first | (obtain ⟨x, -,rfl⟩:=List.mem_map.1 hu;rfl) | (obtain ⟨x, -,rfl⟩:=List.mem_map.1 (List.mem_of_mem_take hu);rfl) | (obtain ⟨x, -,rfl⟩:=List.mem_map.1 (List.mem_of_mem_drop hu);rfl) | (simp at hu)))
   try (case aa2=>(unfold maxLen;omega))
   try (case aa3=>omega)
   try (case aa4=>exact Nat.le_refl _)
   intro v1 w1 h2 h3 h4
   obtain ⟨p1,n1,c1,rfl⟩:=slice_ofA h2
   have K1:Hid (Below wr.heap.size wr w1):=(Below.refl _ _).grown h3 (Nat.le_refl _) (fun q hq=>by cases hq)
   have HO1:Hid ((w1.alloc (.cells #[.string x] 9)).ownsRow wr.heap.size 9 1 (.slice p1 n1 c1) j ((([]:List ByteArray).take j).map Value.string)):=by
    have h:=World.ownsRow.alloc h2 (.cells #[.string x] 9)
    show World.ownsRow _ _ _ _ _ _ _
    simpa using h
   have HK1:Hid (∀ q,(Value.slice p1 n1 c1).ownBlock=some q→wr.heap.size≤q):=fun q hq=>(World.ownsRow.lt h2 q hq).1
   have HS2:Hid (SrcA (w1.alloc (.cells #[.string x] 9)) 1 (.slice (some ⟨w1.heap.size,0,none⟩) 1 1) 1 [.string x]):=Or.inr ⟨_,1,rfl,rfl,fun i y hj=>by
    rw [Addr.add_lit,Nat.zero_add]
    have hb:=heap_allocA w1 (.cells #[.string x] 9)
    rw [Lib.cell_of_heap hb]
    simpa using hj⟩
   clear h2 h3 h4
   go_wp2_with (at_builtin;refine wpList_append_srcA rfl _ _ 22 rfl wr.heap.size 9 i0 (.string ByteArray.empty) 1 16 Tryz.underlying22 hi hz0 hz1 hz2 rfl (by decide) (.slice p1 n1 c1) j ((([]:List ByteArray).take j).map Value.string) rfl HO1.out (.slice (some ⟨w1.heap.size,0,none⟩) 1 1) 1 [.string x] rfl HS2.out ?bb1 ?bb2 ?bb3 ?bb4 ?_)
   try (case bb1=>(intro u hu;simp at hu;subst hu;rfl))
   try (case bb2=>(unfold maxLen;omega))
   try (case bb3=>omega)
   try (case bb4=>(have:=K1.out.size;simp;omega))
   intro v2 w2 h2 h3 h4
   obtain ⟨p2,n2,c2,rfl⟩:=slice_ofA h2
   have K2:Hid (Below wr.heap.size wr w2):=(K1.out.alloc K1.out.size _).grown h3 (by have:=K1.out.size;simp;omega) HK1.out
   have HO2:Hid (w2.ownsRow wr.heap.size 9 1 (.slice p2 n2 c2) (j+1) ((([]:List ByteArray).take j++[x]).map Value.string)):=by
    show World.ownsRow _ _ _ _ _ _ _
    simpa using h2
   have HK2:Hid (∀ q,(Value.slice p2 n2 c2).ownBlock=some q→wr.heap.size≤q):=fun q hq=>(World.ownsRow.lt h2 q hq).1
   have HS3:Hid (SrcA w2 1 (.slice none 0 0) (n - j) ((([]:List ByteArray).drop j).map Value.string)):=S2.out w2 K2.out
   clear h2 h3 h4 HO1 HK1 HS2 S1 S2
   go_wp2_with (at_builtin;refine wpList_append_srcA rfl _ _ 22 rfl wr.heap.size 9 i0 (.string ByteArray.empty) 1 16 Tryz.underlying22 hi hz0 hz1 hz2 rfl (by decide) (.slice p2 n2 c2) (j+1) ((([]:List ByteArray).take j++[x]).map Value.string) rfl HO2.out (.slice none 0 0) (n - j) ((([]:List ByteArray).drop j).map Value.string) rfl HS3.out ?dd1 ?dd2 ?dd3 ?dd4 ?_)
   try (case dd1=>(intro u hu;first | (obtain ⟨x, -,rfl⟩:=List.mem_map.1 hu;rfl) | (obtain ⟨x, -,rfl⟩:=List.mem_map.1 (List.mem_of_mem_take hu);rfl) | (obtain ⟨x, -,rfl⟩:=List.mem_map.1 (List.mem_of_mem_drop hu);rfl) | (simp at hu)))
   try (case dd2=>(unfold maxLen;omega))
   try (case dd3=>omega)
   try (case dd4=>exact K2.out.size)
   intro v3 w3 h2 h3 h4
   have K3:Hid (Below wr.heap.size wr w3):=K2.out.grown h3 K2.out.size HK2.out
   have O3:Hid (OwnN B v3 (putN x []) w3):=by
    rw [hP.out]
    have e1:(([]:List ByteArray).take j++[x]++([]:List ByteArray).drop j).length=j+1+(n - j):=by have:=en.out;simp;omega
    refine own_monoB (B:=wr.heap.size) ?_ hB
    rw [e1]
    first | (simpa using h2;done) | (rw [show j+1+(n - j)=j+1 by omega];simpa using h2)
   clear h2 h3 h4 HO2 HK2 HS3
   go_wp2
   go_ret
   exact ⟨_,rfl,O3.out,K3.out⟩
 ·have gl:g<w.heap.size:=(Array.getElem?_eq_some_iff.1 hg2).1
  have cM:Hid (∀ i (h:i<L.length),w.cell? ⟨g,i,none⟩=some (.string L[i])):=fun i h=>by
   have h5:=World.ownsRow.cellAt (show w.ownsRow B 9 1 (.slice (some ⟨g,0,none⟩) L.length cap) L.length (L.map Value.string) from HO.out) i (by omega)
   rw [h5,List.getElem?_map,List.getElem?_eq_getElem h]
   rfl
  rw [en.out] at hn lv ⊢
  clear hg2 hn2 hn3 hO cur
  go_enter Tryz.func71,Tryz.ntmps71
  go_wp2
  go_loopw [5] (fun a wx=>∃ j:Nat,j≤n∧a=.int .i64 j∧Hid (∀ i (h:i<L.length),i<j→L[i].data.toList<x.data.toList)∧wx=w) (fun a _=>n - (intOf a).toNat)
  case atStart=>exact ⟨0,Nat.zero_le _,rfl,(fun i h hi=>by omega),rfl⟩
  case round=>
   obtain ⟨j,hj,rfl,hless,rfl⟩:=hrel
   have j0:(0:Int)≤(j:Int):=by omega
   have j3:(j:Int)≤(cap:Int):=by omega
   have j4:(j:Int)≤(n:Int):=by omega
   have S1:Hid (SrcA wr 1 (.slice (some ⟨g,0,none⟩) j cap) j ((L.take j).map Value.string)):=by
    have h:=nms_sub (j:=0) (m:=j) (c:=cap) gl cM.out (by have:=en.out;omega)
    rwa [List.drop_zero] at h
   have S2a:Hid (∀ (W:World) (c:Nat),Below wr.heap.size wr W→SrcA W 1 (.slice (some ⟨g,j,none⟩) (n - j) c) (n - j) ((L.drop j).map Value.string)):=fun W c hW=>by
    have h:=nms_sub (j:=j) (m:=n - j) (c:=c) (Nat.lt_of_lt_of_le gl hW.size) (fun i h=>(hW.cell (p:=⟨g,i,none⟩) gl).trans (cM.out i h)) (by have:=en.out;omega)
    rwa [List.take_of_length_le (by simp;have:=en.out;omega)] at h
   by_cases hjk:j<n
   ·have jm:j<L.length:=by have:=en.out;omega
    have cj:wr.cell? ⟨g,j,none⟩=some (.string L[j]):=cM.out j jm
    have hle:=less_lt L[j] x
    have heq:=eq_bytes L[j] x
    obtain ⟨Z,eZ⟩:∃ Z,Hid (L[j]=Z):=⟨L[j],(rfl:L[j]=L[j])⟩
    rw [eZ.out] at cj hle heq
    have j1:(j:Int)<(n:Int):=by omega
    by_cases hz:Z.data.toList<x.data.toList
    ·have hl2:Hid (∀ i (h:i<L.length),i<j+1→L[i].data.toList<x.data.toList):=fun i h hi=>by
      by_cases e:i=j
      ·subst e
       rw [eZ.out]
       exact hz
      ·exact hless.out i h (by omega)
     rw [decide_eq_true hz] at hle
     clear S1 S2a heq
     go_wp2
     exact ⟨⟨j+1,by omega,by go_num,hl2,trivial⟩,by simp [intOf];omega⟩
    rw [decide_eq_false hz] at hle
    by_cases hx:Z=x
    ·have hP:Hid (putN x L=L):=putN_in x L j jm hless.out (by rw [eZ.out];exact hz) (by rw [eZ.out];exact hx)
     rw [decide_eq_true hx] at heq
     have HO':Hid (OwnN B (.slice (some ⟨g,0,none⟩) n cap) L wr):=by have h:=HO.out;rw [en.out] at h;exact h
     clear S1 S2a hx
     go_wp2
     go_ret
     rw [hP.out]
     exact ⟨_,rfl,HO'.out,Below.refl _ _⟩
    rw [decide_eq_false hx] at heq
    have hP:Hid (putN x L=L.take j++[x]++L.drop j):=putN_at x L j (by omega) hless.out (fun h=>by rw [eZ.out];exact ⟨hz,hx⟩)
    have S2:Hid (∀ W:World,Below wr.heap.size wr W→SrcA W 1 (.slice (some ⟨g,j,none⟩) (n - j) (cap - j)) (n - j) ((L.drop j).map Value.string)):=fun W hW=>S2a.out W _ hW
    have hcj:¬ cap=j:=by omega
    clear S2a hz hx
    go_wp2_with (at_builtin;refine wpList_append_srcA rfl _ _ 22 rfl wr.heap.size 9 i0 (.string ByteArray.empty) 1 16 Tryz.underlying22 hi hz0 hz1 hz2 rfl (by decide) (.slice none 0 0) 0 [] rfl (World.ownsRow_nil _ _ _ _) (.slice (some ⟨g,0,none⟩) j cap) j ((L.take j).map Value.string) rfl S1.out ?aa1 ?aa2 ?aa3 ?aa4 ?_)
    try (case aa1=>(intro u hu;first | (obtain ⟨x, -,rfl⟩:=List.mem_map.1 hu;rfl) | (obtain ⟨x, -,rfl⟩:=List.mem_map.1 (List.mem_of_mem_take hu);rfl) | (obtain ⟨x, -,rfl⟩:=List.mem_map.1 (List.mem_of_mem_drop hu);rfl) | (simp at hu)))
    try (case aa2=>(unfold maxLen;omega))
    try (case aa3=>omega)
    try (case aa4=>exact Nat.le_refl _)
    intro v1 w1 h2 h3 h4
    obtain ⟨p1,n1,c1,rfl⟩:=slice_ofA h2
    have K1:Hid (Below wr.heap.size wr w1):=(Below.refl _ _).grown h3 (Nat.le_refl _) (fun q hq=>by cases hq)
    have HO1:Hid ((w1.alloc (.cells #[.string x] 9)).ownsRow wr.heap.size 9 1 (.slice p1 n1 c1) j ((L.take j).map Value.string)):=by
     have h:=World.ownsRow.alloc h2 (.cells #[.string x] 9)
     show World.ownsRow _ _ _ _ _ _ _
     simpa using h
    have HK1:Hid (∀ q,(Value.slice p1 n1 c1).ownBlock=some q→wr.heap.size≤q):=fun q hq=>(World.ownsRow.lt h2 q hq).1
    have HS2:Hid (SrcA (w1.alloc (.cells #[.string x] 9)) 1 (.slice (some ⟨w1.heap.size,0,none⟩) 1 1) 1 [.string x]):=Or.inr ⟨_,1,rfl,rfl,fun i y hj=>by
     rw [Addr.add_lit,Nat.zero_add]
     have hb:=heap_allocA w1 (.cells #[.string x] 9)
     rw [Lib.cell_of_heap hb]
     simpa using hj⟩
    clear h2 h3 h4
    go_wp2_with (at_builtin;refine wpList_append_srcA rfl _ _ 22 rfl wr.heap.size 9 i0 (.string ByteArray.empty) 1 16 Tryz.underlying22 hi hz0 hz1 hz2 rfl (by decide) (.slice p1 n1 c1) j ((L.take j).map Value.string) rfl HO1.out (.slice (some ⟨w1.heap.size,0,none⟩) 1 1) 1 [.string x] rfl HS2.out ?bb1 ?bb2 ?bb3 ?bb4 ?_)
    try (case bb1=>(intro u hu;simp at hu;subst hu;rfl))
    try (case bb2=>(unfold maxLen;omega))
    try (case bb3=>omega)
    try (case bb4=>(have:=K1.out.size;simp;omega))
    intro v2 w2 h2 h3 h4
    obtain ⟨p2,n2,c2,rfl⟩:=slice_ofA h2
    have K2:Hid (Below wr.heap.size wr w2):=(K1.out.alloc K1.out.size _).grown h3 (by have:=K1.out.size;simp;omega) HK1.out
    have HO2:Hid (w2.ownsRow wr.heap.size 9 1 (.slice p2 n2 c2) (j+1) ((L.take j++[x]).map Value.string)):=by
     show World.ownsRow _ _ _ _ _ _ _
     simpa using h2
    have HK2:Hid (∀ q,(Value.slice p2 n2 c2).ownBlock=some q→wr.heap.size≤q):=fun q hq=>(World.ownsRow.lt h2 q hq).1
    have HS3:Hid (SrcA w2 1 (.slice (some ⟨g,j,none⟩) (n - j) (cap - j)) (n - j) ((L.drop j).map Value.string)):=S2.out w2 K2.out
    clear h2 h3 h4 HO1 HK1 HS2 S1 S2
    go_wp2_with (at_builtin;refine wpList_append_srcA rfl _ _ 22 rfl wr.heap.size 9 i0 (.string ByteArray.empty) 1 16 Tryz.underlying22 hi hz0 hz1 hz2 rfl (by decide) (.slice p2 n2 c2) (j+1) ((L.take j++[x]).map Value.string) rfl HO2.out (.slice (some ⟨g,j,none⟩) (n - j) (cap - j)) (n - j) ((L.drop j).map Value.string) rfl HS3.out ?dd1 ?dd2 ?dd3 ?dd4 ?_)
    try (case dd1=>(intro u hu;first | (obtain ⟨x, -,rfl⟩:=List.mem_map.1 hu;rfl) | (obtain ⟨x, -,rfl⟩:=List.mem_map.1 (List.mem_of_mem_take hu);rfl) | (obtain ⟨x, -,rfl⟩:=List.mem_map.1 (List.mem_of_mem_drop hu);rfl) | (simp at hu)))
    try (case dd2=>(unfold maxLen;omega))
    try (case dd3=>omega)
    try (case dd4=>exact K2.out.size)
    intro v3 w3 h2 h3 h4
    have K3:Hid (Below wr.heap.size wr w3):=K2.out.grown h3 K2.out.size HK2.out
    have O3:Hid (OwnN B v3 (putN x L) w3):=by
     rw [hP.out]
     have e1:(L.take j++[x]++L.drop j).length=j+1+(n - j):=by have:=en.out;simp;omega
     refine own_monoB (B:=wr.heap.size) ?_ hB
     rw [e1]
     first | (simpa using h2;done) | (rw [show j+1+(n - j)=j+1 by omega];simpa using h2)
    clear h2 h3 h4 HO2 HK2 HS3
    go_wp2
    go_ret
    exact ⟨_,rfl,O3.out,K3.out⟩
   ·have ejn:j=n:=by omega
    subst ejn
    have c2:¬ (j:Int)<(j:Int):=by omega
    have hP:Hid (putN x L=L.take j++[x]++L.drop j):=putN_at x L j (by have:=en.out;omega) hless.out (fun h=>by have:=en.out;omega)
    have hD:Hid ((L.drop j).map Value.string=[]):=by rw [List.drop_eq_nil_of_le (by have:=en.out;omega)];rfl
    by_cases hcj:cap=j
    ·subst hcj
     have S2:Hid (∀ W:World,Below wr.heap.size wr W→SrcA W 1 (.slice (some ⟨g,0,none⟩) 0 0) (cap - cap) ((L.drop cap).map Value.string)):=fun W hW=>Or.inl ⟨_,_,rfl,by omega,hD.out⟩
     clear S2a
     go_wp2_with (at_builtin;refine wpList_append_srcA rfl _ _ 22 rfl wr.heap.size 9 i0 (.string ByteArray.empty) 1 16 Tryz.underlying22 hi hz0 hz1 hz2 rfl (by decide) (.slice none 0 0) 0 [] rfl (World.ownsRow_nil _ _ _ _) (.slice (some ⟨g,0,none⟩) cap cap) cap ((L.take cap).map Value.string) rfl S1.out ?aa1 ?aa2 ?aa3 ?aa4 ?_)
     try (case aa1=>(intro u hu;first | (obtain ⟨x, -,rfl⟩:=List.mem_map.1 hu;rfl) | (obtain ⟨x, -,rfl⟩:=List.mem_map.1 (List.mem_of_mem_take hu);rfl) | (obtain ⟨x, -,rfl⟩:=List.mem_map.1 (List.mem_of_mem_drop hu);rfl) | (simp at hu)))
     try (case aa2=>(unfold maxLen;omega))
     try (case aa3=>omega)
     try (case aa4=>exact Nat.le_refl _)
     intro v1 w1 h2 h3 h4
     obtain ⟨p1,n1,c1,rfl⟩:=slice_ofA h2
     have K1:Hid (Below wr.heap.size wr w1):=(Below.refl _ _).grown h3 (Nat.le_refl _) (fun q hq=>by cases hq)
     have HO1:Hid ((w1.alloc (.cells #[.string x] 9)).ownsRow wr.heap.size 9 1 (.slice p1 n1 c1) cap ((L.take cap).map Value.string)):=by
      have h:=World.ownsRow.alloc h2 (.cells #[.string x] 9)
      show World.ownsRow _ _ _ _ _ _ _
      simpa using h
     have HK1:Hid (∀ q,(Value.slice p1 n1 c1).ownBlock=some q→wr.heap.size≤q):=fun q hq=>(World.ownsRow.lt h2 q hq).1
     have HS2:Hid (SrcA (w1.alloc (.cells #[.string x] 9)) 1 (.slice (some ⟨w1.heap.size,0,none⟩) 1 1) 1 [.string x]):=Or.inr ⟨_,1,rfl,rfl,fun i y hj=>by
      rw [Addr.add_lit,Nat.zero_add]
      have hb:=heap_allocA w1 (.cells #[.string x] 9)
      rw [Lib.cell_of_heap hb]
      simpa using hj⟩
     clear h2 h3 h4
     go_wp2_with (at_builtin;refine wpList_append_srcA rfl _ _ 22 rfl wr.heap.size 9 i0 (.string ByteArray.empty) 1 16 Tryz.underlying22 hi hz0 hz1 hz2 rfl (by decide) (.slice p1 n1 c1) cap ((L.take cap).map Value.string) rfl HO1.out (.slice (some ⟨w1.heap.size,0,none⟩) 1 1) 1 [.string x] rfl HS2.out ?bb1 ?bb2 ?bb3 ?bb4 ?_)
     try (case bb1=>(intro u hu;simp at hu;subst hu;rfl))
     try (case bb2=>(unfold maxLen;omega))
     try (case bb3=>omega)
     try (case bb4=>(have:=K1.out.size;simp;omega))
     intro v2 w2 h2 h3 h4
     obtain ⟨p2,n2,c2,rfl⟩:=slice_ofA h2
     have K2:Hid (Below wr.heap.size wr w2):=(K1.out.alloc K1.out.size _).grown h3 (by have:=K1.out.size;simp;omega) HK1.out
     have HO2:Hid (w2.ownsRow wr.heap.size 9 1 (.slice p2 n2 c2) (cap+1) ((L.take cap++[x]).map Value.string)):=by
      show World.ownsRow _ _ _ _ _ _ _
      simpa using h2
     have HK2:Hid (∀ q,(Value.slice p2 n2 c2).ownBlock=some q→wr.heap.size≤q):=fun q hq=>(World.ownsRow.lt h2 q hq).1
     have HS3:Hid (SrcA w2 1 (.slice (some ⟨g,0,none⟩) 0 0) (cap - cap) ((L.drop cap).map Value.string)):=S2.out w2 K2.out
     clear h2 h3 h4 HO1 HK1 HS2 S1 S2
     go_wp2_with (at_builtin;refine wpList_append_srcA rfl _ _ 22 rfl wr.heap.size 9 i0 (.string ByteArray.empty) 1 16 Tryz.underlying22 hi hz0 hz1 hz2 rfl (by decide) (.slice p2 n2 c2) (cap+1) ((L.take cap++[x]).map Value.string) rfl HO2.out (.slice (some ⟨g,0,none⟩) 0 0) (cap - cap) ((L.drop cap).map Value.string) rfl HS3.out ?dd1 ?dd2 ?dd3 ?dd4 ?_)
     try (case dd1=>(intro u hu;first | (obtain ⟨x, -,rfl⟩:=List.mem_map.1 hu;rfl) | (obtain ⟨x, -,rfl⟩:=List.mem_map.1 (List.mem_of_mem_take hu);rfl) | (obtain ⟨x, -,rfl⟩:=List.mem_map.1 (List.mem_of_mem_drop hu);rfl) | (simp at hu)))
     try (case dd2=>(unfold maxLen;omega))
     try (case dd3=>omega)
     try (case dd4=>exact K2.out.size)
     intro v3 w3 h2 h3 h4
     have K3:Hid (Below wr.heap.size wr w3):=K2.out.grown h3 K2.out.size HK2.out
     have O3:Hid (OwnN B v3 (putN x L) w3):=by
      rw [hP.out]
      have e1:(L.take cap++[x]++L.drop cap).length=cap+1+(cap - cap):=by have:=en.out;simp;omega
      refine own_monoB (B:=wr.heap.size) ?_ hB
      rw [e1]
      first | (simpa using h2;done) | (rw [show cap+1+(cap - cap)=cap+1 by omega];simpa using h2)
     clear h2 h3 h4 HO2 HK2 HS3
     go_wp2
     go_ret
     exact ⟨_,rfl,O3.out,K3.out⟩
    ·have S2:Hid (∀ W:World,Below wr.heap.size wr W→SrcA W 1 (.slice (some ⟨g,j,none⟩) 0 (cap - j)) (j - j) ((L.drop j).map Value.string)):=fun W hW=>Or.inl ⟨_,_,rfl,by omega,hD.out⟩
     clear S2a
     go_wp2_with (at_builtin;refine wpList_append_srcA rfl _ _ 22 rfl wr.heap.size 9 i0 (.string ByteArray.empty) 1 16 Tryz.underlying22 hi hz0 hz1 hz2 rfl (by decide) (.slice none 0 0) 0 [] rfl (World.ownsRow_nil _ _ _ _) (.slice (some ⟨g,0,none⟩) j cap) j ((L.take j).map Value.string) rfl S1.out ?aa1 ?aa2 ?aa3 ?aa4 ?_)
     try (case aa1=>(intro u hu;first | (obtain ⟨x, -,rfl⟩:=List.mem_map.1 hu;rfl) | (obtain ⟨x, -,rfl⟩:=List.mem_map.1 (List.mem_of_mem_take hu);rfl) | (obtain ⟨x, -,rfl⟩:=List.mem_map.1 (List.mem_of_mem_drop hu);rfl) | (simp at hu)))
     try (case aa2=>(unfold maxLen;omega))
     try (case aa3=>omega)
     try (case aa4=>exact Nat.le_refl _)
     intro v1 w1 h2 h3 h4
     obtain ⟨p1,n1,c1,rfl⟩:=slice_ofA h2
     have K1:Hid (Below wr.heap.size wr w1):=(Below.refl _ _).grown h3 (Nat.le_refl _) (fun q hq=>by cases hq)
     have HO1:Hid ((w1.alloc (.cells #[.string x] 9)).ownsRow wr.heap.size 9 1 (.slice p1 n1 c1) j ((L.take j).map Value.string)):=by
      have h:=World.ownsRow.alloc h2 (.cells #[.string x] 9)
      show World.ownsRow _ _ _ _ _ _ _
      simpa using h
     have HK1:Hid (∀ q,(Value.slice p1 n1 c1).ownBlock=some q→wr.heap.size≤q):=fun q hq=>(World.ownsRow.lt h2 q hq).1
     have HS2:Hid (SrcA (w1.alloc (.cells #[.string x] 9)) 1 (.slice (some ⟨w1.heap.size,0,none⟩) 1 1) 1 [.string x]):=Or.inr ⟨_,1,rfl,rfl,fun i y hj=>by
      rw [Addr.add_lit,Nat.zero_add]
      have hb:=heap_allocA w1 (.cells #[.string x] 9)
      rw [Lib.cell_of_heap hb]
      simpa using hj⟩
     clear h2 h3 h4
     go_wp2_with (at_builtin;refine wpList_append_srcA rfl _ _ 22 rfl wr.heap.size 9 i0 (.string ByteArray.empty) 1 16 Tryz.underlying22 hi hz0 hz1 hz2 rfl (by decide) (.slice p1 n1 c1) j ((L.take j).map Value.string) rfl HO1.out (.slice (some ⟨w1.heap.size,0,none⟩) 1 1) 1 [.string x] rfl HS2.out ?bb1 ?bb2 ?bb3 ?bb4 ?_)
     try (case bb1=>(intro u hu;simp at hu;subst hu;rfl))
     try (case bb2=>(unfold maxLen;omega))
     try (case bb3=>omega)
     try (case bb4=>(have:=K1.out.size;simp;omega))
     intro v2 w2 h2 h3 h4
     obtain ⟨p2,n2,c2,rfl⟩:=slice_ofA h2
     have K2:Hid (Below wr.heap.size wr w2):=(K1.out.alloc K1.out.size _).grown h3 (by have:=K1.out.size;simp;omega) HK1.out
     have HO2:Hid (w2.ownsRow wr.heap.size 9 1 (.slice p2 n2 c2) (j+1) ((L.take j++[x]).map Value.string)):=by
      show World.ownsRow _ _ _ _ _ _ _
      simpa using h2
     have HK2:Hid (∀ q,(Value.slice p2 n2 c2).ownBlock=some q→wr.heap.size≤q):=fun q hq=>(World.ownsRow.lt h2 q hq).1
     have HS3:Hid (SrcA w2 1 (.slice (some ⟨g,j,none⟩) 0 (cap - j)) (j - j) ((L.drop j).map Value.string)):=S2.out w2 K2.out
     clear h2 h3 h4 HO1 HK1 HS2 S1 S2
     go_wp2_with (at_builtin;refine wpList_append_srcA rfl _ _ 22 rfl wr.heap.size 9 i0 (.string ByteArray.empty) 1 16 Tryz.underlying22 hi hz0 hz1 hz2 rfl (by decide) (.slice p2 n2 c2) (j+1) ((L.take j++[x]).map Value.string) rfl HO2.out (.slice (some ⟨g,j,none⟩) 0 (cap - j)) (j - j) ((L.drop j).map Value.string) rfl HS3.out ?dd1 ?dd2 ?dd3 ?dd4 ?_)
     try (case dd1=>(intro u hu;first | (obtain ⟨x, -,rfl⟩:=List.mem_map.1 hu;rfl) | (obtain ⟨x, -,rfl⟩:=List.mem_map.1 (List.mem_of_mem_take hu);rfl) | (obtain ⟨x, -,rfl⟩:=List.mem_map.1 (List.mem_of_mem_drop hu);rfl) | (simp at hu)))
     try (case dd2=>(unfold maxLen;omega))
     try (case dd3=>omega)
     try (case dd4=>exact K2.out.size)
     intro v3 w3 h2 h3 h4
     have K3:Hid (Below wr.heap.size wr w3):=K2.out.grown h3 K2.out.size HK2.out
     have O3:Hid (OwnN B v3 (putN x L) w3):=by
      rw [hP.out]
      have e1:(L.take j++[x]++L.drop j).length=j+1+(j - j):=by have:=en.out;simp;omega
      refine own_monoB (B:=wr.heap.size) ?_ hB
      rw [e1]
      first | (simpa using h2;done) | (rw [show j+1+(j - j)=j+1 by omega];simpa using h2)
     clear h2 h3 h4 HO2 HK2 HS3
     go_wp2
     go_ret
     exact ⟨_,rfl,O3.out,K3.out⟩
theorem uni_oneD (X:List ByteArray):Rises (uniN [X])∧∀ x,x∈uniN [X]↔x∈X:=by
 obtain ⟨a,b⟩:=uni_up [X]
 exact ⟨a,fun x=>by rw [b];simp⟩
theorem puts_uni (X Y:List ByteArray):putsN (uniN [X]) (uniN [Y])=uniN [X++Y]:=
 rises_eq (putsN_up _ _ (uni_oneD X).1) (uni_oneD _).1 fun x=>by rw [putsN_mem,(uni_oneD X).2,(uni_oneD Y).2,(uni_oneD _).2,List.mem_append]
theorem put_nil (x:ByteArray):putN x []=uniN [[x]]:=
 rises_eq (by simp [putN,Rises]) (uni_oneD _).1 fun y=>by rw [(uni_oneD _).2];simp [putN]
theorem uni_nil:uniN [[]]=[]:=rises_eq (uni_oneD _).1 (by simp [Rises]) fun y=>by rw [(uni_oneD _).2]
theorem tvss_app (a b:List Tm):tvss (a++b)=tvss a++tvss b:=by
 induction a with
 | nil=>rw [List.nil_append,tvss_nil,List.nil_append]
 | cons x a ih=>rw [List.cons_append,tvss_cons,tvss_cons,ih,List.append_assoc]
theorem tvss_take (ts:List Tm) (k:Nat) (h:k<ts.length):tvss (ts.take (k+1))=tvss (ts.take k)++tvs ts[k]:=by
 rw [List.take_succ_eq_append_getElem h,tvss_app,tvss_cons,tvss_nil,List.append_nil]
theorem tvss_take_le (ts:List Tm) (k:Nat):(tvss (ts.take k)).length≤(tvss ts).length:=by
 have h:=congrArg List.length (tvss_app (ts.take k) (ts.drop k))
 rw [List.take_append_drop,List.length_append] at h
 omega
theorem tvs_get_le (ts:List Tm) (k:Nat) (h:k<ts.length):(tvs ts[k]).length≤(tvss ts).length:=by
 have h1:=congrArg List.length (tvss_take ts k h)
 have h2:=tvss_take_le ts (k+1)
 rw [List.length_append] at h1
 omega
theorem uni1_len (X:List ByteArray):(uniN [X]).length≤X.length:=by have h:=uniN_len [X];simpa using h
theorem rputs_any (B:Nat) (V U:Value) (L M:List ByteArray) (w:World) (hB:B≤w.heap.size) (hO:OwnN B V L w) (hU:NmsAt w U M) (lv:L.length+M.length≤1000000000):
  Calls Tryz.prog 70 #[V,U] w fun e w'=>∃ v,e=.returned v∧OwnN B v (putsN L M) w'∧Below w.heap.size w w':=by
 obtain ⟨p,c,rfl,hl,hc,HX0⟩:=hU.form
 have HX:Hid (∀ i (hi:i<M.length),∃ b off,p=some ⟨b,off,none⟩∧b<w.heap.size∧w.cell? ⟨b,off+i,none⟩=some (.string M[i])):=HX0
 have HO:Hid (OwnN B V L w):=hO
 obtain ⟨n,en⟩:∃ n:Nat,Hid (M.length=n):=⟨_,rfl⟩
 have HL:Hid (L.length+n≤1000000000):=by rw [← en.out];exact lv
 rw [en.out] at hl hc ⊢
 clear hU HX0 hO lv
 obtain ⟨R,eR⟩:∃ R:List ByteArray,Hid (putsN L M=R):=⟨_,rfl⟩
 rw [eR.out]
 go_enter Tryz.func70,Tryz.ntmps70
 go_wp2
 go_loopw [0,5] (fun v0 v wr=>∃ k:Nat,k≤n∧v=.int .i64 k∧Hid (OwnN B v0 (putsN L (M.take k)) wr)∧Below w.heap.size w wr) (fun _ v _=>n - (intOf v).toNat)
 case atStart=>exact ⟨0,Nat.zero_le _,rfl,by rw [List.take_zero];exact HO,Below.refl _ _⟩
 case round=>
  obtain ⟨k,hk,rfl,hOr,hBr⟩:=hrel
  by_cases hlt:k<n
  case neg=>
   have c2:¬ (k:Int)<n:=by omega
   have hR:Hid (OwnN B u0 R wr):=by
    have h:=hOr.out
    rw [List.take_of_length_le (by have:=en.out;omega),eR.out] at h
    exact h
   go_wp2
   go_ret
   exact ⟨_,rfl,hR.out,hBr⟩
  have hlt':(k:Int)<n:=by omega
  have kx:k<M.length:=by have:=en.out;omega
  obtain ⟨b,off,rfl,hb,x1⟩:=HX.out k kx
  have q1:=(hBr.cell (p:=⟨b,off+k,none⟩) hb).trans x1
  have cP:=rput_any B u0 (putsN L (M.take k)) M[k] wr (Nat.le_trans hB hBr.size) hOr.out (by have:=putsN_len (M.take k) L;have:=HL.out;have:=en.out;simp at*;omega)
  rw [← putsN_snoc,← List.take_succ_eq_append_getElem kx] at cP
  have CP:Hid (type_of% cP):=cP
  clear x1 cP hOr
  generalize M[k]=x at*
  go_wp2_with fail
  refine CP.out.mono ?_
  rintro e w2 ⟨v2,rfl,h2,hb2⟩
  have H2:Hid (_):=h2
  have B2:Below w.heap.size w w2:=hBr.trans (hb2.mono hBr.size)
  clear h2 hb2 CP q1
  go_wp2
  exact ⟨⟨k+1,by omega,by go_num,H2,B2⟩,by simp [intOf];omega⟩
theorem rtvars_any (w0:World):∀ (m:Nat) (t:Tm) (V:Value) (w:World),SizeOf.sizeOf t≤m→TmsAt w0 V t.subs→Below w0.heap.size w0 w→(tvs t).length≤1000000000→
  Calls Tryz.prog 69 #[.agg #[.int .i64 t.k,.string t.nm,.int .i64 t.v.k,.int .i64 t.v.n,.int .i64 t.v.d,.string t.v.s,V]] w fun e w'=>∃ v,e=.returned v∧OwnN w.heap.size v (uniN [tvs t]) w'∧Below w.heap.size w w':=by
 intro m
 induction m with
 | zero=>intro t V w hm;cases t;simp at hm
 | succ m ih=>
  intro t V w hm hV hw hlen
  obtain ⟨p,c,rfl,hl,hc,HX0⟩:=hV.form
  have HX:Hid (∀ i (hi:i<t.subs.length),∃ b off u,p=some ⟨b,off,none⟩∧b<w0.heap.size∧TmC w0 b (off+i*7) t.subs[i] u∧TmsAt w0 u t.subs[i].subs∧t.subs[i].v.Fits):=HX0
  have IH:Hid (_):=ih
  have HM:Hid (SizeOf.sizeOf t≤m+1):=hm
  obtain ⟨A,eA⟩:∃ A:List ByteArray,Hid ((if t.k=1 then [t.nm] else [])=A):=⟨_,rfl⟩
  have eT:Hid (tvs t=A++tvss t.subs):=by have h:=tvs_eq t;rw [eA.out] at h;exact h
  have HL:Hid ((A++tvss t.subs).length≤1000000000):=by rw [← eT.out];exact hlen
  rw [eT.out]
  obtain ⟨n,en⟩:∃ n:Nat,Hid (t.subs.length=n):=⟨_,rfl⟩
  rw [en.out] at hl hc ⊢
  have hw0:=hw.size
  clear hV HX0 ih hm hlen eT
  generalize t.v.k=vk at*
  generalize t.v.n=vn at*
  generalize t.v.d=vd at*
  generalize t.v.s=vs at*
  have hsub:=t.subs_lt
  have HSub:Hid (_):=hsub
  clear hsub
  generalize t.k=tk at*
  generalize t.nm=nm at*
  generalize hts:t.subs=ts at*
  by_cases h1:tk=1
  ·subst h1
   have eA1:Hid (A=[nm]):=by have h:=eA.out;rw [if_pos rfl] at h;exact h.symm
   clear eA
   go_enter Tryz.func69,Tryz.ntmps69
   go_wp2_with fail
   refine (rput_any w.heap.size (.slice none 0 0) [] nm _ (by simp) (OwnN.nil _ _) (by simp)).mono ?_
   rintro e w1 ⟨v1,rfl,h1,hb1⟩
   have S1:Hid (OwnN w.heap.size v1 (uniN [A++tvss (ts.take 0)]) w1):=by
    rw [put_nil] at h1
    rw [eA1.out,List.take_zero,tvss_nil,List.append_nil]
    exact h1
   have X3:w1.heap[w.heap.size]? =some (.cells #[.int .i64 1,.string nm,.int .i64 vk,.int .i64 vn,.int .i64 vd,.string vs,.slice p n c] 46 (0,0)):=(hb1.block w.heap.size (by simp)).trans (heap_allocA w _)
   have B1:Below w.heap.size w w1:=((Below.refl _ _).alloc (Nat.le_refl _) _).trans (hb1.mono (by simp))
   have HX3:Hid (_):=X3
   clear h1 hb1 X3
   go_wp2
   go_loopw [3,4] (fun v0 v wr=>∃ k:Nat,k≤n∧v=.int .i64 k∧Hid (OwnN w.heap.size v0 (uniN [A++tvss (ts.take k)]) wr)∧Below w.heap.size w wr∧Hid (wr.heap[w.heap.size]? =w1.heap[w.heap.size]?)) (fun _ v _=>n - (intOf v).toNat)
   case atStart=>exact ⟨0,Nat.zero_le _,rfl,S1,B1,rfl⟩
   case round=>
    obtain ⟨k,hk,rfl,hOr,hBr,hXr⟩:=hrel
    have r6:wr.cell? ⟨w.heap.size,6,none⟩=some (.slice p n c):=by rw [Lib.cell_of_heap (hXr.out.trans HX3.out)];rfl
    have hsz:w.heap.size<wr.heap.size:=(Array.getElem?_eq_some_iff.1 (hXr.out.trans HX3.out)).1
    by_cases hlt:k<n
    case neg=>
     have c2:¬ (k:Int)<n:=by omega
     have hR:Hid (OwnN w.heap.size u3 (uniN [A++tvss ts]) wr):=by
      have h:=hOr.out
      rw [List.take_of_length_le (by have:=en.out;omega)] at h
      exact h
     go_wp2
     go_ret
     exact ⟨_,rfl,hR.out,hBr⟩
    have hlt':(k:Int)<n:=by omega
    have kx:k<ts.length:=by have:=en.out;omega
    obtain ⟨b,off,u,rfl,hb,TC,TS, -⟩:=HX.out k kx
    have hB0:Below w0.heap.size w0 wr:=hw.trans (hBr.mono hw0)
    obtain ⟨a0,a1,a2,a3,a4,a5,a6⟩:=TC.below hB0 hb
    have hle:=tvs_get_le ts k kx
    have hle2:=tvss_take_le ts k
    have hL:=HL.out
    have hLA:A.length+(tvss ts).length≤1000000000:=by rw [← List.length_append];exact hL
    have cT:=IH.out ts[k] u wr (by have a:=mem_lt k kx;have b:=HSub.out;have c:=HM.out;unfold Hid at b c;omega) TS hB0 (by omega)
    have CT:Hid (type_of% cT):=cT
    have cP:∀ (W:World) (v:Value),Below w.heap.size w W→OwnN w.heap.size u3 (uniN [A++tvss (ts.take k)]) W→OwnN w.heap.size v (uniN [tvs ts[k]]) W→Calls Tryz.prog 70 #[u3,v] W fun e w'=>∃ v,e=.returned v∧OwnN w.heap.size v (uniN [A++tvss (ts.take (k+1))]) w'∧Below W.heap.size W w':=fun W v h0 h1 h2=>by
     have l1:=uni1_len (A++tvss (ts.take k))
     have l2:=uni1_len (tvs ts[k])
     have l3:=congrArg List.length (tvss_take ts k kx)
     have l4:=tvss_take_le ts (k+1)
     rw [List.length_append] at l1 l3
     have h:=rputs_any w.heap.size u3 v _ _ W h0.size h1 (h2.nms (by omega)) (by omega)
     rw [puts_uni,List.append_assoc,← tvss_take ts k kx] at h
     exact h
    have CP:Hid (type_of% cP):=cP
    clear TC TS cT cP hle hle2 hL hLA
    generalize ts[k].k=X0 at*
    generalize ts[k].nm=X1 at*
    generalize ts[k].v.k=X2 at*
    generalize ts[k].v.n=X3 at*
    generalize ts[k].v.d=X4 at*
    generalize ts[k].v.s=X5 at*
    have HO:Hid (OwnN w.heap.size u3 (uniN [A++tvss (ts.take k)]) wr):=hOr
    obtain ⟨p3,n3,c3,rfl⟩:=slice_ofA hOr.out
    clear hOr
    go_wp2_with fail
    refine CT.out.mono ?_
    rintro e w2 ⟨v2,rfl,h2,hb2⟩
    have O2:Hid (OwnN w.heap.size (.slice p3 n3 c3) (uniN [A++tvss (ts.take k)]) w2):=HO.out.bel hb2
    have V2:Hid (OwnN w.heap.size v2 (uniN [tvs ts[k]]) w2):=own_monoB h2 hBr.size
    have B2:Below w.heap.size w w2:=hBr.trans (hb2.mono hBr.size)
    have Z2:Hid (w2.heap[w.heap.size]? =w1.heap[w.heap.size]?):=(hb2.block w.heap.size hsz).trans hXr.out
    have hsz2:w.heap.size<w2.heap.size:=Nat.lt_of_lt_of_le hsz hb2.size
    obtain ⟨p4,n4,c4,rfl⟩:=slice_ofA V2.out
    clear h2 hb2 CT HO hXr a0 a1 a2 a3 a4 a5 a6 r6 hBr
    go_wp2_with fail
    refine (CP.out w2 _ B2 O2.out V2.out).mono ?_
    rintro e w3 ⟨v3,rfl,h3,hb3⟩
    have O3:Hid (_):=h3
    have B3:Below w.heap.size w w3:=B2.trans (hb3.mono B2.size)
    have Z3:Hid (w3.heap[w.heap.size]? =w1.heap[w.heap.size]?):=(hb3.block w.heap.size hsz2).trans Z2.out
    clear h3 hb3 CP O2 V2 Z2
    go_wp2
    exact ⟨⟨k+1,by omega,by go_num,O3,B3,Z3⟩,by simp [intOf];omega⟩
  ·have eA1:Hid (A=[]):=by have h:=eA.out;rw [if_neg h1] at h;exact h.symm
   have h1':(tk==1)=false:=by simpa using h1
   clear eA
   obtain ⟨w1,ew1⟩:∃ w1,w1=w.alloc (.cells #[.int .i64 tk,.string nm,.int .i64 vk,.int .i64 vn,.int .i64 vd,.string vs,.slice p n c] 46):=⟨_,rfl⟩
   have S1:Hid (OwnN w.heap.size (.slice none 0 0) (uniN [A++tvss (ts.take 0)]) w1):=by
    rw [eA1.out,List.take_zero,tvss_nil,List.append_nil,uni_nil]
    exact OwnN.nil _ _
   have HX3:Hid (w1.heap[w.heap.size]? =some (.cells #[.int .i64 tk,.string nm,.int .i64 vk,.int .i64 vn,.int .i64 vd,.string vs,.slice p n c] 46 (0,0))):=by rw [ew1];exact heap_allocA w _
   have B1:Below w.heap.size w w1:=by rw [ew1];exact (Below.refl _ _).alloc (Nat.le_refl _) _
   go_enter Tryz.func69,Tryz.ntmps69
   go_upto_region 4 with fail
   rw [← ew1]
   clear ew1
   go_wp2
   go_loopw [3,4] (fun v0 v wr=>∃ k:Nat,k≤n∧v=.int .i64 k∧Hid (OwnN w.heap.size v0 (uniN [A++tvss (ts.take k)]) wr)∧Below w.heap.size w wr∧Hid (wr.heap[w.heap.size]? =w1.heap[w.heap.size]?)) (fun _ v _=>n - (intOf v).toNat)
   case atStart=>exact ⟨0,Nat.zero_le _,rfl,S1,B1,rfl⟩
   case round=>
    obtain ⟨k,hk,rfl,hOr,hBr,hXr⟩:=hrel
    have r6:wr.cell? ⟨w.heap.size,6,none⟩=some (.slice p n c):=by rw [Lib.cell_of_heap (hXr.out.trans HX3.out)];rfl
    have hsz:w.heap.size<wr.heap.size:=(Array.getElem?_eq_some_iff.1 (hXr.out.trans HX3.out)).1
    by_cases hlt:k<n
    case neg=>
     have c2:¬ (k:Int)<n:=by omega
     have hR:Hid (OwnN w.heap.size u3 (uniN [A++tvss ts]) wr):=by
      have h:=hOr.out
      rw [List.take_of_length_le (by have:=en.out;omega)] at h
      exact h
     go_wp2
     go_ret
     exact ⟨_,rfl,hR.out,hBr⟩
    have hlt':(k:Int)<n:=by omega
    have kx:k<ts.length:=by have:=en.out;omega
    obtain ⟨b,off,u,rfl,hb,TC,TS, -⟩:=HX.out k kx
    have hB0:Below w0.heap.size w0 wr:=hw.trans (hBr.mono hw0)
    obtain ⟨a0,a1,a2,a3,a4,a5,a6⟩:=TC.below hB0 hb
    have hle:=tvs_get_le ts k kx
    have hle2:=tvss_take_le ts k
    have hL:=HL.out
    have hLA:A.length+(tvss ts).length≤1000000000:=by rw [← List.length_append];exact hL
    have cT:=IH.out ts[k] u wr (by have a:=mem_lt k kx;have b:=HSub.out;have c:=HM.out;unfold Hid at b c;omega) TS hB0 (by omega)
    have CT:Hid (type_of% cT):=cT
    have cP:∀ (W:World) (v:Value),Below w.heap.size w W→OwnN w.heap.size u3 (uniN [A++tvss (ts.take k)]) W→OwnN w.heap.size v (uniN [tvs ts[k]]) W→Calls Tryz.prog 70 #[u3,v] W fun e w'=>∃ v,e=.returned v∧OwnN w.heap.size v (uniN [A++tvss (ts.take (k+1))]) w'∧Below W.heap.size W w':=fun W v h0 h1 h2=>by
     have l1:=uni1_len (A++tvss (ts.take k))
     have l2:=uni1_len (tvs ts[k])
     have l3:=congrArg List.length (tvss_take ts k kx)
     have l4:=tvss_take_le ts (k+1)
     rw [List.length_append] at l1 l3
     have h:=rputs_any w.heap.size u3 v _ _ W h0.size h1 (h2.nms (by omega)) (by omega)
     rw [puts_uni,List.append_assoc,← tvss_take ts k kx] at h
     exact h
    have CP:Hid (type_of% cP):=cP
    clear TC TS cT cP hle hle2 hL hLA
    generalize ts[k].k=X0 at*
    generalize ts[k].nm=X1 at*
    generalize ts[k].v.k=X2 at*
    generalize ts[k].v.n=X3 at*
    generalize ts[k].v.d=X4 at*
    generalize ts[k].v.s=X5 at*
    have HO:Hid (OwnN w.heap.size u3 (uniN [A++tvss (ts.take k)]) wr):=hOr
    obtain ⟨p3,n3,c3,rfl⟩:=slice_ofA hOr.out
    clear hOr
    go_wp2_with fail
    refine CT.out.mono ?_
    rintro e w2 ⟨v2,rfl,h2,hb2⟩
    have O2:Hid (OwnN w.heap.size (.slice p3 n3 c3) (uniN [A++tvss (ts.take k)]) w2):=HO.out.bel hb2
    have V2:Hid (OwnN w.heap.size v2 (uniN [tvs ts[k]]) w2):=own_monoB h2 hBr.size
    have B2:Below w.heap.size w w2:=hBr.trans (hb2.mono hBr.size)
    have Z2:Hid (w2.heap[w.heap.size]? =w1.heap[w.heap.size]?):=(hb2.block w.heap.size hsz).trans hXr.out
    have hsz2:w.heap.size<w2.heap.size:=Nat.lt_of_lt_of_le hsz hb2.size
    obtain ⟨p4,n4,c4,rfl⟩:=slice_ofA V2.out
    clear h2 hb2 CT HO hXr a0 a1 a2 a3 a4 a5 a6 r6 hBr
    go_wp2_with fail
    refine (CP.out w2 _ B2 O2.out V2.out).mono ?_
    rintro e w3 ⟨v3,rfl,h3,hb3⟩
    have O3:Hid (_):=h3
    have B3:Below w.heap.size w w3:=B2.trans (hb3.mono B2.size)
    have Z3:Hid (w3.heap[w.heap.size]? =w1.heap[w.heap.size]?):=(hb3.block w.heap.size hsz2).trans Z2.out
    clear h3 hb3 CP O2 V2 Z2
    go_wp2
    exact ⟨⟨k+1,by omega,by go_num,O3,B3,Z3⟩,by simp [intOf];omega⟩
theorem rtss_app (a b:List Rx):rtss (a++b)=rtss a++rtss b:=by
 induction a with
 | nil=>rw [List.nil_append,rtss_nil,List.nil_append]
 | cons x a ih=>rw [List.cons_append,rtss_cons,rtss_cons,ih,List.append_assoc]
theorem rtss_take (rs:List Rx) (k:Nat) (h:k<rs.length):rtss (rs.take (k+1))=rtss (rs.take k)++rts rs[k]:=by
 rw [List.take_succ_eq_append_getElem h,rtss_app,rtss_cons,rtss_nil,List.append_nil]
theorem rtss_take_le (rs:List Rx) (k:Nat):(rtss (rs.take k)).length≤(rtss rs).length:=by
 have h:=congrArg List.length (rtss_app (rs.take k) (rs.drop k))
 rw [List.take_append_drop,List.length_append] at h
 omega
theorem row_typ {w:World} {B e size n q:Nat} {v:Value} {xs:List Value} (h:w.ownsRow B e size v n xs) (hv:v.ownBlock=some q):∃ cur,w.heap[q]? =some (.cells cur e (0,0)):=by
 obtain ⟨-,⟨rfl, -⟩ | ⟨g,cap,cur,rfl, -,hg, -⟩⟩:=h
 ·cases hv
 ·injection hv with hv
  have hv':g=q:=hv
  subst hv'
  exact ⟨cur,hg⟩
theorem rtests_any (w0:World):∀ (m:Nat) (r:Rx) (ut us:Value) (w:World),SizeOf.sizeOf r≤m→FmsAt w0 ut r.test→RxsAt w0 us r.subs→Below w0.heap.size w0 w→(rts r).length≤1000000000→
  Calls Tryz.prog 99 #[.agg #[.int .i64 r.k,ut,us]] w fun e w'=>∃ v,e=.returned v∧OwnF w0 w.heap.size v (rts r) w'∧Below w.heap.size w w':=by
 obtain ⟨i0,hi,hz0,hz1,hz2⟩:=info_parts inFA
 intro m
 induction m with
 | zero=>intro r ut us w hm;cases r;simp at hm
 | succ m ih=>
  intro r ut us w hm ht hs hw hlen
  have HT:Hid (FmsAt w0 ut r.test):=ht
  obtain ⟨pt,ct,rfl,hlt0,hct, -⟩:=ht.form
  obtain ⟨ps,cs,rfl,hl,hc,HX0⟩:=hs.form
  have HX:Hid (∀ i (hi:i<r.subs.length),∃ b off ut us,ps=some ⟨b,off,none⟩∧b<w0.heap.size∧RxC w0 b (off+i*3) r.subs[i] ut us∧FmsAt w0 ut r.subs[i].test∧RxsAt w0 us r.subs[i].subs):=HX0
  have IH:Hid (_):=ih
  have HM:Hid (SizeOf.sizeOf r≤m+1):=hm
  have HSub:Hid (SizeOf.sizeOf r.subs<SizeOf.sizeOf r):=r.subs_lt
  rw [rts_eq] at hlen ⊢
  have HL:Hid (r.test.length+(rtss r.subs).length≤1000000000):=by rw [List.length_append] at hlen;exact hlen
  obtain ⟨n,en⟩:∃ n:Nat,Hid (r.subs.length=n):=⟨_,rfl⟩
  rw [en.out] at hl hc ⊢
  have hw0:=hw.size
  obtain ⟨qs,q1,q2,q3⟩:=srcF ht
  have HQ:Hid (∀ W,Below w0.heap.size w0 W→SrcA W 10 (.slice pt r.test.length ct) r.test.length (flatF qs)):=q3
  have HQ2:Hid (∀ x∈qs,QAt w0 x):=q2
  have HQ1:Hid (qs.map Prod.fst=r.test):=q1
  have hLT:r.test.length≤1000000000:=by have:=HL.out;omega
  clear hs ht HX0 ih hm hlen q1 q2 q3
  generalize r.k=rk at*
  have hW1:Below w0.heap.size w0 (w.alloc (.cells #[.int .i64 rk,.slice pt r.test.length ct,.slice ps n cs] 62)):=hw.alloc hw0 _
  go_enter Tryz.func99,Tryz.ntmps99
  go_wp2_with (at_builtin;refine wpList_append_srcA rfl _ _ 26 rfl w.heap.size 29 i0 (.agg #[.int .i64 0,.string ByteArray.empty,.int .i64 0,.slice none 0 0,.slice none 0 0,.int .i64 0,.int .i64 0,.bool false,.slice none 0 0,.slice none 0 0]) 10 152 Tryz.underlying26 hi hz0 hz1 hz2 rfl (by decide) _ _ _ rfl (World.ownsRow_nil _ _ _ _) _ r.test.length (flatF qs) rfl (HQ.out _ hW1) (flatF_one HQ2.out) ?cc3 ?cc4 ?cc5 ?_)
  try (case cc3=>(unfold maxLen;omega))
  try (case cc4=>omega)
  try (case cc5=>first | omega | (simp;done) | (simp;omega))
  intro v1 w1 h2 h3 _
  have S1:Hid (OwnF w0 w.heap.size v1 (r.test++rtss (r.subs.take 0)) w1):=by
   rw [List.take_zero,rtss_nil,List.append_nil]
   exact ⟨qs,HQ1.out,HQ2.out,h2⟩
  have HX3:Hid (w1.heap[w.heap.size]? =_):=(h3.block w.heap.size (by simp) (fun e=>by cases e)).trans (heap_allocA w _)
  have B1:Below w.heap.size w w1:=Below.grown ((Below.refl _ _).alloc (Nat.le_refl _) _) h3 (by simp) (fun q hq=>by cases hq)
  clear h2 h3 HQ HQ1 HQ2 hW1
  go_wp2
  go_loopw [3,4] (fun v0 v wr=>∃ k:Nat,k≤n∧v=.int .i64 k∧Hid (OwnF w0 w.heap.size v0 (r.test++rtss (r.subs.take k)) wr)∧Below w.heap.size w wr∧Hid (wr.heap[w.heap.size]? =w1.heap[w.heap.size]?)) (fun _ v _=>n - (intOf v).toNat)
  case atStart=>exact ⟨0,Nat.zero_le _,rfl,S1,B1,rfl⟩
  case round=>
   obtain ⟨k,hk,rfl,hOr,hBr,hXr⟩:=hrel
   have r6:wr.cell? ⟨w.heap.size,2,none⟩=some (.slice ps n cs):=by rw [Lib.cell_of_heap (hXr.out.trans HX3.out)];rfl
   have hsz:w.heap.size<wr.heap.size:=(Array.getElem?_eq_some_iff.1 (hXr.out.trans HX3.out)).1
   by_cases hlt:k<n
   case neg=>
    have c2:¬ (k:Int)<n:=by omega
    have hR:Hid (OwnF w0 w.heap.size u3 (r.test++rtss r.subs) wr):=by
     have h:=hOr.out
     rw [List.take_of_length_le (by have:=en.out;omega)] at h
     exact h
    go_wp2
    go_ret
    exact ⟨_,rfl,hR.out,hBr⟩
   have hlt':(k:Int)<n:=by omega
   have kx:k<r.subs.length:=by have:=en.out;omega
   obtain ⟨b,off,u1,u2,rfl,hb,TC,NT,NS⟩:=HX.out k kx
   have hB0:Below w0.heap.size w0 wr:=hw.trans (hBr.mono hw0)
   obtain ⟨a0,a1,a2⟩:=TC.below hB0 hb
   have l3:=congrArg List.length (rtss_take r.subs k kx)
   have l4:=rtss_take_le r.subs (k+1)
   rw [List.length_append] at l3
   have hL:=HL.out
   have hLk:(r.test++rtss (r.subs.take k)).length+(rts r.subs[k]).length≤1000000000:=by rw [List.length_append];omega
   have cT:=IH.out r.subs[k] u1 u2 wr (by have a:=mem_lt k kx;have b:=HSub.out;have c:=HM.out;unfold Hid at b c;omega) NT NS hB0 (by omega)
   have CT:Hid (type_of% cT):=cT
   have eK:Hid ((r.test++rtss (r.subs.take k))++rts r.subs[k]=r.test++rtss (r.subs.take (k+1))):=by rw [rtss_take r.subs k kx];first | exact rfl | exact List.append_assoc _ _ _
   obtain ⟨p1,c1,rfl, -⟩:=NT.form
   obtain ⟨p2,c2,rfl, -⟩:=NS.form
   obtain ⟨SV,hSV⟩:∃ SV:List Fm,Hid (rts r.subs[k]=SV):=⟨rts r.subs[k],(show _=_ from rfl)⟩
   obtain ⟨MK,hMK⟩:∃ MK:List Fm,Hid ((r.test++rtss (r.subs.take k))=MK):=⟨(r.test++rtss (r.subs.take k)),(show _=_ from rfl)⟩
   rw [hSV.out] at CT hLk eK
   rw [hMK.out] at hOr hLk eK
   clear TC NT NS cT l3 l4 hL hSV hMK
   generalize r.subs[k].k=X0 at*
   generalize r.subs[k].test.length=X1 at*
   generalize r.subs[k].subs.length=X2 at*
   go_wp2_with fail
   refine CT.out.mono ?_
   rintro e w2 ⟨v2,rfl,h2,hb2⟩
   have B2:Below w.heap.size w w2:=hBr.trans (hb2.mono hBr.size)
   have hzB:=B2.size
   have hzS:w.heap.size<w2.heap.size:=Nat.lt_of_lt_of_le hsz hb2.size
   have Z2:Hid (w2.heap[w.heap.size]? =w1.heap[w.heap.size]?):=(hb2.block w.heap.size hsz).trans hXr.out
   obtain ⟨ps,q1,q2,q3⟩:=hOr.out.bel hb2
   obtain ⟨qs,g1,g2,g3⟩:=h2.src
   have HK:Hid (∀ q,u3.ownBlock=some q→w.heap.size≤q∧q<w2.heap.size):=fun q hq=>World.ownsRow.lt q3 q hq
   have HN:Hid (∀ q,u3.ownBlock=some q→q≠w.heap.size):=fun q hq e=>by
    subst e
    have hh:=row_typ q3 hq
    obtain ⟨cur,hh⟩:=hh
    rw [Z2.out,HX3.out] at hh
    injection hh with hh
    injection hh with _ hh
    exact absurd hh (by decide)
   have HP3:Hid (w2.ownsRow w.heap.size 29 10 u3 MK.length (flatF ps)):=q3
   have HP2:Hid (∀ x∈ps,QAt w0 x):=q2
   have HP1:Hid (ps.map Prod.fst=MK):=q1
   have HQ:Hid (SrcA w2 10 v2 SV.length (flatF qs)):=g3
   have HQ2:Hid (∀ x∈qs,QAt w0 x):=g2
   have HQ1:Hid (qs.map Prod.fst=SV):=g1
   clear q1 q2 q3 g1 g2 g3 h2 hb2 hOr CT a0 a1 a2 r6 hBr hXr
   go_wp2_with (at_builtin;refine wpList_append_srcA rfl _ _ 26 rfl w.heap.size 29 i0 (.agg #[.int .i64 0,.string ByteArray.empty,.int .i64 0,.slice none 0 0,.slice none 0 0,.int .i64 0,.int .i64 0,.bool false,.slice none 0 0,.slice none 0 0]) 10 152 Tryz.underlying26 hi hz0 hz1 hz2 rfl (by decide) _ _ _ rfl HP3.out _ SV.length (flatF qs) rfl HQ.out (flatF_one HQ2.out) ?cc3 ?cc4 ?cc5 ?_)
   try (case cc3=>(unfold maxLen;omega))
   try (case cc4=>omega)
   try (case cc5=>first | omega | (simp;done) | (simp;omega))
   intro v5 w5 h2 h3 _
   have O5:Hid (OwnF w0 w.heap.size v5 (r.test++rtss (r.subs.take (k+1))) w5):=by rw [← eK.out];exact OwnF.app HP1.out HP2.out HQ1.out HQ2.out h2
   have B5:Below w.heap.size w w5:=Below.grown B2 h3 (by omega) (fun q hq=>(HK.out q hq).1)
   have Z5:Hid (w5.heap[w.heap.size]? =w1.heap[w.heap.size]?):=(h3.block w.heap.size hzS (fun e=>HN.out _ e.symm rfl)).trans Z2.out
   clear h2 h3 HK HN HP1 HP2 HP3 HQ HQ1 HQ2
   go_wp2
   exact ⟨⟨k+1,by omega,by go_num,O5,B5,Z5⟩,by simp [intOf];omega⟩
theorem rparts_any (w0:World) (f:Fm) (y:FQ) (hq:QAt w0 (f,y)) (w:World) (hw:Below w0.heap.size w0 w) (hlen:(rtss f.rgx).length+f.subs.length≤1000000000):
  Calls Tryz.prog 68 #[.agg #[.int .i64 f.k,.string f.nm,.int .i64 f.op,y.v,y.t,.int .i64 f.lo,.int .i64 f.hi,.bool f.opn,y.s,y.r]] w fun e w'=>∃ v,e=.returned v∧OwnF w0 (w.heap.size+1) v (rtss f.rgx++f.subs) w'∧Below w.heap.size w w':=by
 obtain ⟨i0,hi,hz0,hz1,hz2⟩:=info_parts inFA
 obtain ⟨uv,ut,us,ur⟩:=y
 obtain ⟨h1,h2,h3,h4⟩:=hq
 dsimp only at h1 h2 h3 h4 ⊢
 obtain ⟨-,pv,cv,rfl, -⟩:=h1
 obtain ⟨pt,ct,rfl, -⟩:=h2.form
 obtain ⟨qs,q1,q2,q3⟩:=srcF h3
 obtain ⟨ps,cs,rfl,hls,hcs, -⟩:=h3.form
 obtain ⟨pr,cr,rfl,hl,hc,HX0⟩:=h4.form
 have HX:Hid (∀ i (hi:i<f.rgx.length),∃ b off ut us,pr=some ⟨b,off,none⟩∧b<w0.heap.size∧RxC w0 b (off+i*3) f.rgx[i] ut us∧FmsAt w0 ut f.rgx[i].test∧RxsAt w0 us f.rgx[i].subs):=HX0
 have HQ:Hid (∀ W,Below w0.heap.size w0 W→SrcA W 10 (.slice ps f.subs.length cs) f.subs.length (flatF qs)):=q3
 have HQ2:Hid (∀ x∈qs,QAt w0 x):=q2
 have HQ1:Hid (qs.map Prod.fst=f.subs):=q1
 have HL:Hid ((rtss f.rgx).length+f.subs.length≤1000000000):=hlen
 have IH:Hid (∀ (r:Rx) (ut us:Value) (W:World),True→FmsAt w0 ut r.test→RxsAt w0 us r.subs→Below w0.heap.size w0 W→(rts r).length≤1000000000→Calls Tryz.prog 99 #[.agg #[.int .i64 r.k,ut,us]] W fun e w'=>∃ v,e=.returned v∧OwnF w0 W.heap.size v (rts r) w'∧Below W.heap.size W w'):=fun r ut us w _=>rtests_any w0 _ r ut us w (Nat.le_refl _)
 obtain ⟨n,en⟩:∃ n:Nat,Hid (f.rgx.length=n):=⟨_,rfl⟩
 rw [en.out] at hl hc ⊢
 have hw0:=hw.size
 have hLS:f.subs.length≤1000000000:=by omega
 clear h2 h3 h4 HX0 hlen q1 q2 q3
 generalize f.vars.length=nv at*
 generalize f.terms.length=nt at*
 generalize f.lo=lo at*
 generalize f.hi=fhi at*
 generalize f.nm=nm at*
 generalize f.opn=o at*
 generalize f.op=op at*
 generalize f.k=fk at*
 obtain ⟨w1,ew1⟩:∃ w1,w1=w.alloc (.cells #[.int .i64 fk,.string nm,.int .i64 op,.slice pv nv cv,.slice pt nt ct,.int .i64 lo,.int .i64 fhi,.bool o,.slice ps f.subs.length cs,.slice pr n cr] 29):=⟨_,rfl⟩
 have HX3:Hid (w1.heap[w.heap.size]? =some (.cells #[.int .i64 fk,.string nm,.int .i64 op,.slice pv nv cv,.slice pt nt ct,.int .i64 lo,.int .i64 fhi,.bool o,.slice ps f.subs.length cs,.slice pr n cr] 29 (0,0))):=by rw [ew1];exact heap_allocA w _
 have B1:Below w.heap.size w w1:=by rw [ew1];exact (Below.refl _ _).alloc (Nat.le_refl _) _
 have S1:Hid (OwnF w0 (w.heap.size+1) (.slice none 0 0) (rtss (f.rgx.take 0)) w1):=by rw [List.take_zero,rtss_nil];exact OwnF.nil _ _ _
 go_enter Tryz.func68,Tryz.ntmps68
 go_upto_region 2 with fail
 rw [← ew1]
 clear ew1
 go_wp2
 go_loopw [3,4] (fun v0 v wr=>∃ k:Nat,k≤n∧v=.int .i64 k∧Hid (OwnF w0 (w.heap.size+1) v0 (rtss (f.rgx.take k)) wr)∧Below w.heap.size w wr∧Hid (wr.heap[w.heap.size]? =w1.heap[w.heap.size]?)) (fun _ v _=>n - (intOf v).toNat)
 case atStart=>exact ⟨0,Nat.zero_le _,rfl,S1,B1,rfl⟩
 case round=>
  obtain ⟨k,hk,rfl,hOr,hBr,hXr⟩:=hrel
  have r6:wr.cell? ⟨w.heap.size,9,none⟩=some (.slice pr n cr):=by rw [Lib.cell_of_heap (hXr.out.trans HX3.out)];rfl
  have hsz:w.heap.size<wr.heap.size:=(Array.getElem?_eq_some_iff.1 (hXr.out.trans HX3.out)).1
  by_cases hlt:k<n
  case neg=>
   have c2:¬ (k:Int)<n:=by omega
   have hR:Hid (OwnF w0 (w.heap.size+1) u3 (rtss f.rgx) wr):=by
    have h:=hOr.out
    rw [List.take_of_length_le (by have:=en.out;omega)] at h
    exact h
   have e8:wr.cell? ⟨w.heap.size,8,none⟩=some (.slice ps f.subs.length cs):=by rw [Lib.cell_of_heap (hXr.out.trans HX3.out)];rfl
   have hB0:Below w0.heap.size w0 wr:=hw.trans (hBr.mono hw0)
   have hsz2:=hBr.size
   obtain ⟨ps9,q1,q2,q3⟩:=hR.out
   have HK:Hid (∀ q,u3.ownBlock=some q→w.heap.size+1≤q∧q<wr.heap.size):=fun q hq=>World.ownsRow.lt q3 q hq
   have HP3:Hid (wr.ownsRow (w.heap.size+1) 29 10 u3 (rtss f.rgx).length (flatF ps9)):=q3
   have HP2:Hid (∀ x∈ps9,QAt w0 x):=q2
   have HP1:Hid (ps9.map Prod.fst=rtss f.rgx):=q1
   have hLL:(rtss f.rgx).length+f.subs.length≤1000000000:=HL.out
   clear q1 q2 q3 hOr hR
   go_wp2_with (at_builtin;refine wpList_append_srcA rfl _ _ 26 rfl (w.heap.size+1) 29 i0 (.agg #[.int .i64 0,.string ByteArray.empty,.int .i64 0,.slice none 0 0,.slice none 0 0,.int .i64 0,.int .i64 0,.bool false,.slice none 0 0,.slice none 0 0]) 10 152 Tryz.underlying26 hi hz0 hz1 hz2 rfl (by decide) _ _ _ rfl HP3.out _ f.subs.length (flatF qs) rfl (HQ.out _ hB0) (flatF_one HQ2.out) ?cc3 ?cc4 ?cc5 ?_)
   try (case cc3=>(unfold maxLen;omega))
   try (case cc4=>omega)
   try (case cc5=>first | omega | (simp;done) | (simp;omega))
   intro v5 w5 h2 h3 _
   have O5:Hid (OwnF w0 (w.heap.size+1) v5 (rtss f.rgx++f.subs) w5):=OwnF.app HP1.out HP2.out HQ1.out HQ2.out h2
   have B5:Below w.heap.size w w5:=Below.grown hBr h3 (by omega) (fun q hq=>by have:=(HK.out q hq).1;omega)
   clear h2 h3 HK HP1 HP2 HP3 HQ HQ1 HQ2
   go_wp2
   go_ret
   exact ⟨_,rfl,O5.out,B5⟩
  have hlt':(k:Int)<n:=by omega
  have kx:k<f.rgx.length:=by have:=en.out;omega
  obtain ⟨b,off,u1,u2,rfl,hb,TC,NT,NS⟩:=HX.out k kx
  have hB0:Below w0.heap.size w0 wr:=hw.trans (hBr.mono hw0)
  obtain ⟨a0,a1,a2⟩:=TC.below hB0 hb
  have l3:=congrArg List.length (rtss_take f.rgx k kx)
  have l4:=rtss_take_le f.rgx (k+1)
  rw [List.length_append] at l3
  have hL:=HL.out
  have hLk:(rtss (f.rgx.take k)).length+(rts f.rgx[k]).length≤1000000000:=by omega
  have cT:=IH.out f.rgx[k] u1 u2 wr (trivial) NT NS hB0 (by omega)
  have CT:Hid (type_of% cT):=cT
  have eK:Hid ((rtss (f.rgx.take k))++rts f.rgx[k]=rtss (f.rgx.take (k+1))):=by rw [rtss_take f.rgx k kx];first | exact rfl | exact List.append_assoc _ _ _
  obtain ⟨p1,c1,rfl, -⟩:=NT.form
  obtain ⟨p2,c2,rfl, -⟩:=NS.form
  obtain ⟨SV,hSV⟩:∃ SV:List Fm,Hid (rts f.rgx[k]=SV):=⟨rts f.rgx[k],(show _=_ from rfl)⟩
  obtain ⟨MK,hMK⟩:∃ MK:List Fm,Hid ((rtss (f.rgx.take k))=MK):=⟨(rtss (f.rgx.take k)),(show _=_ from rfl)⟩
  rw [hSV.out] at CT hLk eK
  rw [hMK.out] at hOr hLk eK
  clear TC NT NS cT l3 l4 hL hSV hMK
  generalize f.rgx[k].k=X0 at*
  generalize f.rgx[k].test.length=X1 at*
  generalize f.rgx[k].subs.length=X2 at*
  go_wp2_with fail
  refine CT.out.mono ?_
  rintro e w2 ⟨v2,rfl,h2,hb2⟩
  have B2:Below w.heap.size w w2:=hBr.trans (hb2.mono hBr.size)
  have hzB:=B2.size
  have hzS:w.heap.size<w2.heap.size:=Nat.lt_of_lt_of_le hsz hb2.size
  have Z2:Hid (w2.heap[w.heap.size]? =w1.heap[w.heap.size]?):=(hb2.block w.heap.size hsz).trans hXr.out
  obtain ⟨ps,q1,q2,q3⟩:=hOr.out.bel hb2
  obtain ⟨qs,g1,g2,g3⟩:=h2.src
  have HK:Hid (∀ q,u3.ownBlock=some q→w.heap.size+1≤q∧q<w2.heap.size):=fun q hq=>World.ownsRow.lt q3 q hq
  have HN:Hid (∀ q,u3.ownBlock=some q→q≠w.heap.size):=fun q hq e=>by
   have:=World.ownsRow.lt (hOr.out.choose_spec.2.2) q hq
   omega
  have HP3:Hid (w2.ownsRow (w.heap.size+1) 29 10 u3 MK.length (flatF ps)):=q3
  have HP2:Hid (∀ x∈ps,QAt w0 x):=q2
  have HP1:Hid (ps.map Prod.fst=MK):=q1
  have HQ:Hid (SrcA w2 10 v2 SV.length (flatF qs)):=g3
  have HQ2:Hid (∀ x∈qs,QAt w0 x):=g2
  have HQ1:Hid (qs.map Prod.fst=SV):=g1
  clear q1 q2 q3 g1 g2 g3 h2 hb2 hOr CT a0 a1 a2 r6 hBr hXr
  go_wp2_with (at_builtin;refine wpList_append_srcA rfl _ _ 26 rfl (w.heap.size+1) 29 i0 (.agg #[.int .i64 0,.string ByteArray.empty,.int .i64 0,.slice none 0 0,.slice none 0 0,.int .i64 0,.int .i64 0,.bool false,.slice none 0 0,.slice none 0 0]) 10 152 Tryz.underlying26 hi hz0 hz1 hz2 rfl (by decide) _ _ _ rfl HP3.out _ SV.length (flatF qs) rfl HQ.out (flatF_one HQ2.out) ?cc3 ?cc4 ?cc5 ?_)
  try (case cc3=>(unfold maxLen;omega))
  try (case cc4=>omega)
  try (case cc5=>first | omega | (simp;done) | (simp;omega))
  intro v5 w5 h2 h3 _
  have O5:Hid (OwnF w0 (w.heap.size+1) v5 (rtss (f.rgx.take (k+1))) w5):=by rw [← eK.out];exact OwnF.app HP1.out HP2.out HQ1.out HQ2.out h2
  have B5:Below w.heap.size w w5:=Below.grown B2 h3 (by omega) (fun q hq=>by have:=(HK.out q hq).1;omega)
  have Z5:Hid (w5.heap[w.heap.size]? =w1.heap[w.heap.size]?):=(h3.block w.heap.size hzS (fun e=>HN.out _ e.symm rfl)).trans Z2.out
  clear h2 h3 HK HN HP1 HP2 HP3 HQ HQ1 HQ2
  go_wp2
  exact ⟨⟨k+1,by omega,by go_num,O5,B5,Z5⟩,by simp [intOf];omega⟩
theorem frm_rs (k:Int) (h:1≤k∧k≤22):(frm k).rm=0∨(frm k).sm=0:=by
 have:k=1∨k=2∨k=3∨k=4∨k=5∨k=6∨k=7∨k=8∨k=9∨k=10∨k=11∨k=12∨k=13∨k=14∨k=15∨k=16∨k=17∨k=18∨k=19∨k=20∨k=21∨k=22:=by omega
 rcases this with h | h | h | h | h | h | h | h | h | h | h | h | h | h | h | h | h | h | h | h | h | h<;>subst h<;>decide
theorem pts_app {f:Fm} (h:fmE f=0):rtss f.rgx++f.subs=ptsF f:=by
 obtain ⟨hk, -, -,hs,hr⟩:=fm_forms h
 unfold ptsF
 by_cases hg:f.rgx=[]
 ·rw [if_pos hg,hg,rtss_nil,List.nil_append]
 ·rw [if_neg hg]
  rcases frm_rs f.k hk with e | e
  ·exact absurd (List.length_eq_zero_iff.1 (by omega)) hg
  ·have:f.subs=[]:=List.length_eq_zero_iff.1 (by omega)
   rw [this,List.append_nil]
theorem fm_19t {f:Fm} (h:fmE f=0) (hk:f.k=19∨f.k=10):f.terms=[]:=by
 obtain ⟨-, -,ht, -, -⟩:=fm_forms h
 have e1:(frm f.k).tm=0:=by rcases hk with hk | hk<;>rw [hk]<;>decide
 exact List.length_eq_zero_iff.1 (by omega)
theorem fm_10p {f:Fm} (h:fmE f=0) (hk:f.k=10):∃ g,ptsF f=[g]:=by
 obtain ⟨-, -, -,hs,hr⟩:=fm_forms h
 rw [hk] at hs hr
 have e1:(frm 10).sl=1:=by decide
 have e3:(frm 10).sm=1:=by decide
 have e2:(frm 10).rm=0:=by decide
 have:f.rgx=[]:=List.length_eq_zero_iff.1 (by omega)
 unfold ptsF
 rw [if_pos this]
 have hl:f.subs.length=1:=by omega
 obtain ⟨g,hg⟩:=List.length_eq_one_iff.1 hl
 exact ⟨g,hg⟩
theorem fm_20s {f:Fm} (h:fmE f=0) (hk:f.k=20∨f.k=21):ptsF f=f.subs∧1<f.subs.length:=by
 have h1:=fm_20 h hk
 obtain ⟨-, -, -,hs,hr⟩:=fm_forms h
 have e2:(frm f.k).rm=0:=by rcases hk with hk | hk<;>rw [hk]<;>decide
 have:f.rgx=[]:=List.length_eq_zero_iff.1 (by omega)
 have e:ptsF f=f.subs:=by unfold ptsF;rw [if_pos this]
 exact ⟨e,by rw [← e];exact h1⟩
def upK (f:Fm) (k:Nat):List ByteArray:=tvss f.terms++(((ptsF f).take k).map fun g=>(fre g).1).flatten
theorem upK_succ (f:Fm) (k:Nat) (h:k<(ptsF f).length):upK f (k+1)=upK f k++(fre (ptsF f)[k]).1:=by
 unfold upK
 rw [List.take_succ_eq_append_getElem h,List.map_append,List.flatten_append,List.append_assoc]
 simp
theorem upK_len {f:Fm} (hn:nodF f≤256) (hok:wfF f) (k:Nat):(upK f k).length≤5000:=by
 have h1:=tvss_nod _ f.terms (Nat.le_refl _)
 have h2:=pts_nod f
 have h3:=pts_ok hok
 have hT:nodTs f.terms≤256:=by rw [nodF_eq] at hn;omega
 have h5:∀ g∈(ptsF f).take k,((fre g).1).length≤9*nodF g:=fun g hg=>by
  obtain ⟨i,hi,e⟩:=List.getElem_of_mem (List.mem_of_mem_take hg)
  rw [← e]
  exact fre_len _ _ (Nat.le_refl _) (wfFs_get _ i hi h3)
 have h6:=sum_len (g:=fun g=>(fre g).1) h5
 have h7:nodFs ((ptsF f).take k)≤nodFs (ptsF f):=by
  have e:=nodFs_append ((ptsF f).take k) ((ptsF f).drop k)
  rw [List.take_append_drop] at e
  omega
 unfold upK
 rw [List.length_append]
 omega
theorem puts_up {X Y:List ByteArray} (hY:Rises Y):putsN (uniN [X]) Y=uniN [X++Y]:=
 rises_eq (putsN_up _ _ (uni_oneD X).1) (uni_oneD _).1 fun x=>by rw [putsN_mem,(uni_oneD X).2,(uni_oneD _).2,List.mem_append]
theorem fre_other {f:Fm} (h10:¬ f.k=10) (h19:¬ f.k=19) (h20:¬ f.k=20) (h21:¬ f.k=21):(fre f).1=uniN [upK f (ptsF f).length]:=by
 rw [fre_eq]
 show freO f _=_
 unfold freO
 rw [if_neg h10,if_neg h19,if_neg (by omega)]
 obtain ⟨a,b⟩:=uni_up [tvss f.terms,uniN ((ptsF f).map fun g=>(fre g).1)]
 refine rises_eq a (uni_oneD _).1 fun x=> ?_
 rw [b,(uni_oneD _).2]
 unfold upK
 rw [List.take_length]
 have c:=(uni_up ((ptsF f).map fun g=>(fre g).1)).2 x
 simp only [List.flatten_cons,List.flatten_nil,List.append_nil,List.mem_append,c]
theorem fre_agg {f:Fm} (h19:f.k=19):(fre f).1=putsN (putN f.nm []) (f.vars.drop 1):=by
 rw [fre_eq]
 show freO f _=_
 unfold freO
 rw [if_neg (by omega),if_pos h19]
 obtain ⟨a,b⟩:=uni_up [[f.nm],f.vars.drop 1]
 refine rises_eq a (putsN_up _ _ (putN_up _ _ (by simp [Rises]))) fun x=> ?_
 rw [b,putsN_mem,putN_mem]
 simp
theorem fre_let {f:Fm} (hk:f.k=20∨f.k=21) (he:ptsF f=f.subs) (h1:1<f.subs.length):(fre f).1=(fre f.subs[1]).1:=by
 rw [fre_eq]
 show freO f _=_
 unfold freO
 rw [if_neg (by omega),if_neg (by omega),if_pos hk,he,getD_lt _ 1 [] (by simpa using h1)]
 simp
theorem fre_ex {f:Fm} (hE:fmE f=0) (hok:wfF f) (hk:f.k=10):(fre f).1=(uniN [upK f (ptsF f).length]).filter (fun s=> !Lib.containsS f.vars s):=by
 obtain ⟨g,hg⟩:=fm_10p hE hk
 have ht:=fm_19t hE (Or.inr hk)
 have hwg:wfF g:=by have h:=pts_ok hok;rw [hg,wfFs_cons] at h;exact h.1
 have e:uniN [upK f (ptsF f).length]=(fre g).1:=by
  refine rises_eq (uni_oneD _).1 (fre_up _ g (Nat.le_refl _) hwg).1 fun x=> ?_
  rw [(uni_oneD _).2]
  unfold upK
  rw [List.take_length,hg,ht,tvss_nil]
  simp
 rw [e,fre_eq]
 show freO f _=_
 unfold freO
 rw [if_pos hk,hg]
 rfl
theorem rvars_any (w0:World):∀ (m:Nat) (f:Fm) (y:FQ) (w:World),nodF f<m→nodF f≤256→wfF f→QAt w0 (f,y)→Below w0.heap.size w0 w→
  Calls Tryz.prog 39 #[.agg #[.int .i64 f.k,.string f.nm,.int .i64 f.op,y.v,y.t,.int .i64 f.lo,.int .i64 f.hi,.bool f.opn,y.s,y.r]] w fun e w'=>∃ v,e=.returned v∧OwnN w.heap.size v (fre f).1 w'∧Below w.heap.size w w':=by
 obtain ⟨i0,hi,hz0,hz1,hz2⟩:=info_parts inStA
 intro m
 induction m with
 | zero=>intro f y w hm;omega
 | succ m ih=>
  intro f y w hm hn hok hQ hw
  have hE:fmE f=0:=by rw [wfF_eq] at hok;exact hok.1
  have hpa:=pts_app hE
  have hpn:=pts_nod f
  have hpo:=pts_ok hok
  have hpl:(ptsF f).length≤256:=by have:=nodFs_len (ptsF f);omega
  have cPt:Hid (∀ W:World,Below w0.heap.size w0 W→Calls Tryz.prog 68 #[.agg #[.int .i64 f.k,.string f.nm,.int .i64 f.op,y.v,y.t,.int .i64 f.lo,.int .i64 f.hi,.bool f.opn,y.s,y.r]] W fun e w'=>∃ v,e=.returned v∧OwnF w0 (W.heap.size+1) v (ptsF f) w'∧Below W.heap.size W w'):=fun W hW=>by
   have h:=rparts_any w0 f y hQ W hW (by rw [← List.length_append,hpa];omega)
   rw [hpa] at h
   exact h
  have IHp:Hid (∀ (i:Nat) (hi:i<(ptsF f).length) (z:FQ) (W:World),QAt w0 ((ptsF f)[i],z)→Below w0.heap.size w0 W→Calls Tryz.prog 39 #[.agg #[.int .i64 (ptsF f)[i].k,.string (ptsF f)[i].nm,.int .i64 (ptsF f)[i].op,z.v,z.t,.int .i64 (ptsF f)[i].lo,.int .i64 (ptsF f)[i].hi,.bool (ptsF f)[i].opn,z.s,z.r]] W fun e w'=>∃ v,e=.returned v∧OwnN W.heap.size v (fre (ptsF f)[i]).1 w'∧Below W.heap.size W w'):=fun i hi z W h1 h2=>ih _ z W (by have:=nodFs_get (ptsF f) i hi;omega) (by have:=nodFs_get (ptsF f) i hi;omega) (wfFs_get _ i hi hpo) h1 h2
  have HRise:Hid (∀ (i:Nat) (hi:i<(ptsF f).length),Rises (fre (ptsF f)[i]).1∧(fre (ptsF f)[i]).1.length≤5000):=fun i hi=>⟨(fre_up _ _ (Nat.le_refl _) (wfFs_get _ i hi hpo)).1,by have h:=fre_len _ _ (Nat.le_refl _) (wfFs_get _ i hi hpo);have:=nodFs_get (ptsF f) i hi;omega⟩
  have HUL:Hid (∀ k,(upK f k).length≤5000):=upK_len hn hok
  have HTL:Hid ((tvss f.terms).length≤5000):=by have h:=upK_len hn hok 0;unfold upK at h;rw [List.length_append] at h;unfold Hid;omega
  have HFO:Hid (¬ f.k=10→¬ f.k=19→¬ f.k=20→¬ f.k=21→(fre f).1=uniN [upK f (ptsF f).length]):=fre_other
  have HFA:Hid (f.k=19→(fre f).1=putsN (putN f.nm []) (f.vars.drop 1)∧f.terms=[]∧1≤f.vars.length):=fun h=>⟨fre_agg h,fm_19t hE (Or.inl h),fm_19 hE h⟩
  have HFE:Hid (f.k=10→(fre f).1=(uniN [upK f (ptsF f).length]).filter (fun s=> !Lib.containsS f.vars s)):=fre_ex hE hok
  have HFL:Hid (f.k=20∨f.k=21→ptsF f=f.subs∧∃ h1:1<f.subs.length,(fre f).1=(fre f.subs[1]).1):=fun h=>⟨(fm_20s hE h).1,(fm_20s hE h).2,fre_let h (fm_20s hE h).1 (fm_20s hE h).2⟩
  have hvl:=fm_vars hE
  obtain ⟨R,eR⟩:∃ R:List ByteArray,Hid ((fre f).1=R):=⟨_,rfl⟩
  rw [eR.out] at HFO HFA HFE HFL ⊢
  obtain ⟨uv,ut,us,ur⟩:=y
  obtain ⟨h1,h2,h3,h4⟩:=hQ
  dsimp only at h1 h2 h3 h4 cPt ⊢
  have HV:Hid (NmsAt w0 uv f.vars):=h1
  obtain ⟨-,pv,cv,rfl,hcv, -⟩:=h1
  obtain ⟨pt,ct,rfl,hlt0,hct,HX0⟩:=h2.form
  have HX:Hid (∀ i (hi:i<f.terms.length),∃ b off u,pt=some ⟨b,off,none⟩∧b<w0.heap.size∧TmC w0 b (off+i*7) f.terms[i] u∧TmsAt w0 u f.terms[i].subs∧f.terms[i].v.Fits):=HX0
  obtain ⟨ps,cs,rfl,hls,hcs,HS0⟩:=h3.form
  have HXS:Hid (∀ i (hi:i<f.subs.length),∃ b off uv ut us ur,ps=some ⟨b,off,none⟩∧b<w0.heap.size∧FmC w0 b (off+i*10) f.subs[i] uv ut us ur∧NmsAt w0 uv f.subs[i].vars∧TmsAt w0 ut f.subs[i].terms∧FmsAt w0 us f.subs[i].subs∧RxsAt w0 ur f.subs[i].rgx):=HS0
  obtain ⟨pr,cr,rfl, -⟩:=h4.form
  have hw0:=hw.size
  have hvq:Hid (f.vars.length≤8):=hvl
  clear h2 h3 h4 HX0 HS0 ih hm hn hok hE hpa hpn hpo hvl eR
  obtain ⟨ts,ets⟩:∃ ts:List Tm,Hid (f.terms=ts):=⟨_,rfl⟩
  obtain ⟨np,enp⟩:∃ n:Nat,Hid ((ptsF f).length=n):=⟨_,rfl⟩
  obtain ⟨n,en⟩:∃ n:Nat,Hid (f.terms.length=n):=⟨_,rfl⟩
  obtain ⟨nv,env⟩:∃ n:Nat,Hid (f.vars.length=n):=⟨_,rfl⟩
  obtain ⟨ns,ens⟩:∃ n:Nat,Hid (f.subs.length=n):=⟨_,rfl⟩
  obtain ⟨nr,enr⟩:∃ n:Nat,Hid (f.rgx.length=n):=⟨_,rfl⟩
  rw [en.out] at hlt0 hct cPt ⊢
  rw [env.out] at cPt hcv HV hvq ⊢
  rw [ens.out] at hls hcs cPt ⊢
  rw [enr.out] at cPt ⊢
  rw [enp.out] at hpl HFO HFE
  have hvq':nv≤8:=hvq.out
  generalize f.lo=lo at*
  generalize f.hi=fhi at*
  generalize f.nm=nm at*
  generalize f.opn=o at*
  generalize f.op=op at*
  generalize f.k=fk at*
  obtain ⟨w1,ew1⟩:∃ w1,w1=w.alloc (.cells #[.int .i64 fk,.string nm,.int .i64 op,.slice pv nv cv,.slice pt n ct,.int .i64 lo,.int .i64 fhi,.bool o,.slice ps ns cs,.slice pr nr cr] 29):=⟨_,rfl⟩
  have HX3:Hid (w1.heap[w.heap.size]? =some (.cells #[.int .i64 fk,.string nm,.int .i64 op,.slice pv nv cv,.slice pt n ct,.int .i64 lo,.int .i64 fhi,.bool o,.slice ps ns cs,.slice pr nr cr] 29 (0,0))):=by rw [ew1];exact heap_allocA w _
  have B1:Below w.heap.size w w1:=by rw [ew1];exact (Below.refl _ _).alloc (Nat.le_refl _) _
  have S1:Hid (OwnN w.heap.size (.slice none 0 0) (uniN [tvss (f.terms.take 0)]) w1):=by rw [List.take_zero,tvss_nil,uni_nil];exact OwnN.nil _ _
  go_enter Tryz.func39,Tryz.ntmps39
  go_upto_region 2 with fail
  rw [← ew1]
  clear ew1
  go_wp2
  go_loopw [3,4] (fun v0 v wr=>∃ k:Nat,k≤n∧v=.int .i64 k∧Hid (OwnN w.heap.size v0 (uniN [tvss (f.terms.take k)]) wr)∧Below w.heap.size w wr∧Hid (wr.heap[w.heap.size]? =w1.heap[w.heap.size]?)) (fun _ v _=>n - (intOf v).toNat)
  case atStart=>exact ⟨0,Nat.zero_le _,rfl,S1,B1,rfl⟩
  case round=>
   obtain ⟨k,hk,rfl,hOr,hBr,hXr⟩:=hrel
   have r6:wr.cell? ⟨w.heap.size,4,none⟩=some (.slice pt n ct):=by rw [Lib.cell_of_heap (hXr.out.trans HX3.out)];rfl
   have hsz:w.heap.size<wr.heap.size:=(Array.getElem?_eq_some_iff.1 (hXr.out.trans HX3.out)).1
   by_cases hlt:k<n
   case neg=>
    have c2:¬ (k:Int)<n:=by omega
    obtain ⟨w2,ew2⟩:∃ W:World,W=wr:=⟨_,rfl⟩
    subst ew2
    have O2:Hid (OwnN w.heap.size u3 (uniN [tvss f.terms]) w2):=by
     have h:=hOr.out
     rw [List.take_of_length_le (by have:=en.out;omega)] at h
     exact h
    have X2:Hid (w2.heap[w.heap.size]? =some (.cells #[.int .i64 fk,.string nm,.int .i64 op,.slice pv nv cv,.slice pt n ct,.int .i64 lo,.int .i64 fhi,.bool o,.slice ps ns cs,.slice pr nr cr] 29 (0,0))):=hXr.out.trans HX3.out
    have hB0:Below w0.heap.size w0 w2:=hw.trans (hBr.mono hw0)
    clear hOr hXr HX3 B1 S1
    obtain ⟨e0,e1,e2,e3,e4,e5,e6,e7,e8,e9⟩:=box10 X2.out
    obtain ⟨p3,n3,c3,rfl⟩:=slice_ofA O2.out
    go_wp2_with fail
    refine (cPt.out _ hB0).mono ?_
    rintro e w3 ⟨v6,rfl,h6,hb6⟩
    have P3:Hid (PtsAt w0 w3 v6 (ptsF f)):=h6.pts (by have:=enp.out;omega)
    have O3:Hid (OwnN w.heap.size (.slice p3 n3 c3) (uniN [tvss f.terms]) w3):=O2.out.bel hb6
    have X3:Hid (_):=blkB X2.out hb6
    have B3:Below w.heap.size w w3:=hBr.trans (hb6.mono hBr.size)
    have B30:Below w0.heap.size w0 w3:=hw.trans (B3.mono hw0)
    clear h6 hb6 O2 X2 hBr hB0 cPt r6 hlt c2 hk e0 e1 e2 e3 e4 e5 e6 e7 e8 e9
    have hsz3:w.heap.size<w3.heap.size:=blkL X3.out
    obtain ⟨p6,c6,rfl,hl6,hc6,HP6⟩:=P3.out
    have HPP:Hid (_):=HP6
    clear P3 HP6
    rw [enp.out] at hl6 hc6 ⊢
    have e0:w3.cell? ⟨w.heap.size,0,none⟩=some (.int .i64 fk):=by rw [Lib.cell_of_heap X3.out];rfl
    by_cases h19:fk=19
    ·obtain ⟨r1,r2,r3⟩:=HFA.out h19
     have HR1:Hid (R=putsN (putN nm []) (f.vars.drop 1)):=r1
     have O4:Hid (OwnN w.heap.size (.slice p3 n3 c3) [] w3):=by have h:=O3.out;rw [r2,tvss_nil,uni_nil] at h;exact h
     have cA:Hid (type_of% (rput_any w.heap.size (.slice p3 n3 c3) [] nm w3 B3.size O4.out (by simp))):=rput_any w.heap.size (.slice p3 n3 c3) [] nm w3 B3.size O4.out (by simp)
     subst h19
     have e1:w3.cell? ⟨w.heap.size,1,none⟩=some (.string nm):=by rw [Lib.cell_of_heap X3.out];rfl
     have nv1:1≤nv:=by have:=env.out;omega
     have nv2:(1:Int)≤nv:=by omega
     clear r1 r2 r3 O3 O4
     go_wp2_with fail
     refine cA.out.mono ?_
     rintro e w4 ⟨v4,rfl,h4,hb4⟩
     have O4:Hid (OwnN w.heap.size v4 (putN nm []) w4):=h4
     have B4:Below w.heap.size w w4:=B3.trans (hb4.mono B3.size)
     have X4:Hid (_):=blkB X3.out hb4
     have B40:Below w0.heap.size w0 w4:=hw.trans (B4.mono hw0)
     clear h4 hb4 cA X3 B3 B30 e0 e1
     have e3:w4.cell? ⟨w.heap.size,3,none⟩=some (.slice pv nv cv):=by rw [Lib.cell_of_heap X4.out];rfl
     obtain ⟨p4,n4,c4,rfl⟩:=slice_ofA O4.out
     obtain ⟨b,off,rfl,hb, -⟩:∃ b off,pv=some ⟨b,off,none⟩∧b<w0.heap.size∧True:=by
      have h:=HV.out
      rw [← env.out] at h
      obtain ⟨p,c,e, -, -,hx⟩:=h.form
      injection e with e1 e2 e3
      obtain ⟨b,off,e4,e5, -⟩:=hx 0 (by have:=env.out;omega)
      exact ⟨b,off,e1.trans e4,e5,trivial⟩
     have cK:Hid (∀ (p:Option Addr),(1<nv→p=some ⟨b,off+1,none⟩)→Calls Tryz.prog 70 #[.slice p4 n4 c4,.slice p (nv - 1) (cv - 1)] w4 fun e w'=>∃ v,e=.returned v∧OwnN w.heap.size v R w'∧Below w4.heap.size w4 w'):=fun p hp=>by
      have hv:=HV.out
      rw [← env.out] at hv
      have h:=NmsAt.drop1 hv p (fun h=>hp (by have:=env.out;omega)) (by have:=env.out;omega)
      rw [env.out] at h
      have h2:=rputs_any w.heap.size (.slice p4 n4 c4) _ _ _ w4 B4.size O4.out (h.below B40) (by have:=env.out;simp [putN];omega)
      rw [← HR1.out] at h2
      exact h2
     by_cases hc1:cv=1
     ·have e0n:nv - 1=0:=by omega
      have cK1:Hid (Calls Tryz.prog 70 #[.slice p4 n4 c4,.slice (some ⟨b,off,none⟩) 0 0] w4 fun e w'=>∃ v,e=.returned v∧OwnN w.heap.size v R w'∧Below w4.heap.size w4 w'):=by
       have h:=cK.out (some ⟨b,off,none⟩) (by omega)
       rw [e0n,hc1] at h
       exact h
      subst hc1
      clear cK e0n
      go_wp2_with fail
      refine cK1.out.mono ?_
      rintro e w5 ⟨v5,rfl,h5,hb5⟩
      have O5:Hid (_):=h5
      have B5:Below w.heap.size w w5:=B4.trans (hb5.mono B4.size)
      clear h5 hb5 cK1
      go_wp2
      go_ret
      exact ⟨_,rfl,O5.out,B5⟩
     ·have cK1:Hid (Calls Tryz.prog 70 #[.slice p4 n4 c4,.slice (some ⟨b,off+1,none⟩) (nv - 1) (cv - 1)] w4 fun e w'=>∃ v,e=.returned v∧OwnN w.heap.size v R w'∧Below w4.heap.size w4 w'):=cK.out (some ⟨b,off+1,none⟩) (fun _=>rfl)
      clear cK
      go_wp2_with fail
      refine cK1.out.mono ?_
      rintro e w5 ⟨v5,rfl,h5,hb5⟩
      have O5:Hid (_):=h5
      have B5:Below w.heap.size w w5:=B4.trans (hb5.mono B4.size)
      clear h5 hb5 cK1
      go_wp2
      go_ret
      exact ⟨_,rfl,O5.out,B5⟩
    have k19:(fk==19)=false:=by simpa using h19
    by_cases h20:fk=20∨fk=21
    ·obtain ⟨r1,r2,r3⟩:=HFL.out h20
     have e8:w3.cell? ⟨w.heap.size,8,none⟩=some (.slice ps ns cs):=by rw [Lib.cell_of_heap X3.out];rfl
     obtain ⟨b,off,uv,ut,us,ur,rfl,hb,TC,N1,N2,N3,N4⟩:=HXS.out 1 r2
     obtain ⟨a0,a1,a2,a3,a4,a5,a6,a7,a8,a9⟩:=TC.below B30 hb
     have cI:Calls Tryz.prog 39 #[.agg #[.int .i64 f.subs[1].k,.string f.subs[1].nm,.int .i64 f.subs[1].op,uv,ut,.int .i64 f.subs[1].lo,.int .i64 f.subs[1].hi,.bool f.subs[1].opn,us,ur]] w3 fun e w'=>∃ v,e=.returned v∧OwnN w3.heap.size v R w'∧Below w3.heap.size w3 w':=by
      have h:=IHp.out 1 (by rw [r1];exact r2) ⟨uv,ut,us,ur⟩ w3 (by simp only [r1];exact ⟨N1,N2,N3,N4⟩) B30
      simp only [r1] at h
      rw [← r3] at h
      exact h
     have CI:Hid (type_of% cI):=cI
     have n1:(1:Int)<ns:=by have:=ens.out;omega
     obtain ⟨-,q1,d1,rfl, -⟩:=N1
     obtain ⟨q2,d2,rfl, -⟩:=N2.form
     obtain ⟨q3,d3,rfl, -⟩:=N3.form
     obtain ⟨q4,d4,rfl, -⟩:=N4.form
     clear r1 r3 TC N2 N3 N4 cI
     generalize f.subs[1].k=Y0 at*
     generalize f.subs[1].nm=Y1 at*
     generalize f.subs[1].op=Y2 at*
     generalize f.subs[1].lo=Y3 at*
     generalize f.subs[1].hi=Y4 at*
     generalize f.subs[1].opn=Y5 at*
     generalize f.subs[1].vars.length=L1 at*
     generalize f.subs[1].terms.length=L2 at*
     generalize f.subs[1].subs.length=L3 at*
     generalize f.subs[1].rgx.length=L4 at*
     rcases h20 with h20 | h20
     all_goals
      subst h20
      go_wp2_with fail
      refine CI.out.mono ?_
      rintro e w5 ⟨v5,rfl,h5,hb5⟩
      have O5:Hid (OwnN w.heap.size v5 R w5):=own_monoB h5 B3.size
      have B5:Below w.heap.size w w5:=B3.trans (hb5.mono B3.size)
      clear h5 hb5 CI
      go_wp2
      go_ret
      exact ⟨_,rfl,O5.out,B5⟩
    have h20a:¬ fk=20:=fun h=>h20 (Or.inl h)
    have h21a:¬ fk=21:=fun h=>h20 (Or.inr h)
    have k20:(fk==20)=false:=by simpa using h20a
    have k21:(fk==21)=false:=by simpa using h21a
    go_wp2
    go_loopw [3,7] (fun v0 v wr=>∃ k:Nat,k≤np∧v=.int .i64 k∧Hid (OwnN w.heap.size v0 (uniN [upK f k]) wr)∧Hid (Below w3.heap.size w3 wr)) (fun _ v _=>np - (intOf v).toNat)
    case atStart=>exact ⟨0,Nat.zero_le _,rfl,by have h:=O3.out;unfold upK;rw [List.take_zero,List.map_nil,List.flatten_nil,List.append_nil];exact h,Below.refl _ _⟩
    case round=>
     obtain ⟨k,hk,rfl,hOr,hBr⟩:=hrel
     have Xr:Hid (_):=blkB X3.out hBr.out
     have Bw:Below w.heap.size w wr:=B3.trans (hBr.out.mono B3.size)
     by_cases hlt:k<np
     case neg=>
      have c2:¬ (k:Int)<np:=by omega
      have hkn:k=np:=by omega
      have Ok:Hid (OwnN w.heap.size u3 (uniN [upK f np]) wr):=by have h:=hOr.out;rw [hkn] at h;exact h
      clear hkn hOr
      have e0:wr.cell? ⟨w.heap.size,0,none⟩=some (.int .i64 fk):=by rw [Lib.cell_of_heap Xr.out];rfl
      have e3:wr.cell? ⟨w.heap.size,3,none⟩=some (.slice pv nv cv):=by rw [Lib.cell_of_heap Xr.out];rfl
      by_cases h10:fk=10
      case neg=>
       have k10:(fk==10)=false:=by simpa using h10
       have k10':(fk != 10)=true:=by simpa using h10
       have hR:Hid (OwnN w.heap.size u3 R wr):=by rw [HFO.out h10 h19 h20a h21a];exact Ok.out
       go_wp2
       go_ret
       exact ⟨_,rfl,hR.out,Bw⟩
      have HR1:Hid (R=(uniN [upK f np]).filter (fun s=> !Lib.containsS f.vars s)):=HFE.out h10
      obtain ⟨w5,ew5⟩:∃ W:World,W=wr:=⟨_,rfl⟩
      subst ew5
      subst h10
      obtain ⟨OU,eOU⟩:∃ OU:List ByteArray,Hid (uniN [upK f np]=OU):=⟨_,rfl⟩
      have hOUl:OU.length≤5000:=by rw [← eOU.out];exact Nat.le_trans (uni1_len _) (HUL.out np)
      rw [eOU.out] at Ok HR1
      clear eOU
      obtain ⟨nu,enu⟩:∃ n:Nat,Hid (OU.length=n):=⟨_,rfl⟩
      obtain ⟨p9,c9,rfl,hc9,HU⟩:=Ok.out.cap
      have HUc:Hid (∀ i (hi:i<OU.length),∃ g,p9=some ⟨g,0,none⟩∧g<w5.heap.size∧w5.cell? ⟨g,i,none⟩=some (.string OU[i])):=fun i hi=>by
       rcases HU with h | ⟨g,g1, -,g3,g4⟩
       ·rw [h] at hi;simp at hi
       ·exact ⟨g,g1,g3,g4 i hi⟩
      rw [enu.out] at hc9 hOUl ⊢
      have B50:Below w0.heap.size w0 w5:=hw.trans (Bw.mono hw0)
      have hBr5:Below w3.heap.size w3 w5:=hBr.out
      clear HU Ok hBr e0 e3
      have e0:w5.cell? ⟨w.heap.size,0,none⟩=some (.int .i64 10):=by rw [Lib.cell_of_heap Xr.out];rfl
      go_wp2
      clear e0 hlt c2 hk
      go_loopw [9,10] (fun v0 v wr=>∃ k:Nat,k≤nu∧v=.int .i64 k∧Hid (OwnN w5.heap.size v0 ((OU.take k).filter (fun s=> !Lib.containsS f.vars s)) wr)∧Below w5.heap.size w5 wr) (fun _ v _=>nu - (intOf v).toNat)
      case atStart=>exact ⟨0,Nat.zero_le _,rfl,by rw [List.take_zero];exact OwnN.nil _ _,Below.refl _ _⟩
      case round=>
       obtain ⟨k,hk,rfl,hOr,hB9⟩:=hrel
       have Xr9:Hid (_):=blkB Xr.out hB9
       have Bw9:Below w.heap.size w wr:=Bw.trans (hB9.mono Bw.size)
       by_cases hlt:k<nu
       case neg=>
        have c2:¬ (k:Int)<nu:=by omega
        have hR:Hid (OwnN w.heap.size u9 R wr):=by
         have h:=hOr.out
         rw [List.take_of_length_le (by have:=enu.out;omega),← HR1.out] at h
         exact own_monoB h Bw.size
        go_wp2
        go_ret
        exact ⟨_,rfl,hR.out,Bw9⟩
       have hlt':(k:Int)<nu:=by omega
       have k0:(0:Int)≤k:=by omega
       have kx:k<OU.length:=by have:=enu.out;omega
       obtain ⟨g,rfl,hg,x1⟩:=HUc.out k kx
       have q1:wr.cell? ⟨g,k,none⟩=some (.string OU[k]):=(hB9.cell (p:=⟨g,k,none⟩) hg).trans x1
       have hg9:g<wr.heap.size:=Nat.lt_of_lt_of_le hg hB9.size
       have cH:∀ m:Nat,Calls Tryz.prog 65 #[.slice pv nv cv,.string OU[k]] (wr.drewN m) fun e w'=>e=.returned (.bool (Lib.containsS f.vars OU[k]))∧w'=wr.drewN m:=fun m=>by
        have h:=HV.out
        exact rhasN_any _ f.vars OU[k] _ (h.below (bdrewA m (B50.trans (hB9.mono B50.size))))
       have hF:(OU.take (k+1)).filter (fun s=> !Lib.containsS f.vars s)=(OU.take k).filter (fun s=> !Lib.containsS f.vars s)++(if Lib.containsS f.vars OU[k]=true then [] else [OU[k]]):=by
        rw [List.take_succ_eq_append_getElem kx,List.filter_append]
        congr 1
        cases hcc:Lib.containsS f.vars OU[k]<;>simp [hcc]
       have HF:Hid (type_of% hF):=hF
       have hTl:((OU.take k).filter (fun s=> !Lib.containsS f.vars s)).length≤5000:=by
        have h:=List.length_filter_le (fun s=> !Lib.containsS f.vars s) (OU.take k)
        simp at h
        omega
       obtain ⟨M,eM⟩:∃ M:List ByteArray,Hid ((OU.take k).filter (fun s=> !Lib.containsS f.vars s)=M):=⟨_,rfl⟩
       rw [eM.out] at hOr HF hTl
       obtain ⟨x,ex⟩:∃ x:ByteArray,Hid (OU[k]=x):=⟨OU[k],(show _=_ from rfl)⟩
       rw [ex.out] at q1 HF
       have CH:Hid (∀ m:Nat,Calls Tryz.prog 65 #[.slice pv nv cv,.string x] (wr.drewN m) fun e w'=>e=.returned (.bool (Lib.containsS f.vars x))∧w'=wr.drewN m):=by rw [← ex.out];exact cH
       clear hF cH x1 ex eM
       generalize Lib.containsS f.vars x=CB at*
       have e3:wr.cell? ⟨w.heap.size,3,none⟩=some (.slice pv nv cv):=by rw [Lib.cell_of_heap Xr9.out];rfl
       go_upto_region 26 with fail
       go_quiet (first | (go_at_call 65;exact Calls.quiet_of_same (CH.out _)))
       have K9:Below w5.heap.size w5 (wr.drewN nq):=bdrewA nq hB9
       have O9:Hid (OwnN w5.heap.size u9 M (wr.drewN nq)):=hOr.out
       have q9:(wr.drewN nq).cell? ⟨g,k,none⟩=some (.string x):=q1
       clear CH e3 q1 hOr Xr9 Bw9 hB9
       generalize wr.drewN nq=w9 at*
       cases CB with
       | true=>
        have O10:Hid (OwnN w5.heap.size u9 ((OU.take (k+1)).filter (fun s=> !Lib.containsS f.vars s)) w9):=by rw [HF.out,if_pos rfl,List.append_nil];exact O9.out
        go_wp2
        exact ⟨⟨k+1,by omega,by go_num,O10,K9⟩,by simp [intOf];omega⟩
       | false=>
        have HK:Hid (∀ q,u9.ownBlock=some q→w5.heap.size≤q∧q<w9.heap.size):=fun q hq=>World.ownsRow.lt O9.out q hq
        have HO2:Hid ((w9.alloc (.cells #[.string x] 9)).ownsRow w5.heap.size 9 1 u9 M.length (M.map Value.string)):=World.ownsRow.alloc O9.out _
        have HS2:Hid (SrcA (w9.alloc (.cells #[.string x] 9)) 1 (.slice (some ⟨w9.heap.size,0,none⟩) 1 1) 1 [.string x]):=Or.inr ⟨_,1,rfl,rfl,fun i y hj=>by
         rw [Addr.add_lit,Nat.zero_add]
         have hb:=heap_allocA w9 (.cells #[.string x] 9)
         rw [Lib.cell_of_heap hb]
         simpa using hj⟩
        have hz9:w5.heap.size≤w9.heap.size:=K9.size
        go_wp2_with (at_builtin;refine wpList_append_srcA rfl _ _ 22 rfl w5.heap.size 9 i0 (.string ByteArray.empty) 1 16 Tryz.underlying22 hi hz0 hz1 hz2 rfl (by decide) u9 M.length (M.map Value.string) rfl HO2.out (.slice (some ⟨w9.heap.size,0,none⟩) 1 1) 1 [.string x] rfl HS2.out ?bb1 ?bb2 ?bb3 ?bb4 ?_)
        try (case bb1=>(intro u hu;simp at hu;subst hu;rfl))
        try (case bb2=>(unfold maxLen;omega))
        try (case bb3=>omega)
        try (case bb4=>first | omega | (simp;done) | (simp;omega))
        intro v2 w10 h2 h3 _
        have B10:Below w5.heap.size w5 w10:=(K9.alloc hz9 _).grown h3 (by simp;omega) (fun q hq=>(HK.out q hq).1)
        have O10:Hid (OwnN w5.heap.size v2 ((OU.take (k+1)).filter (fun s=> !Lib.containsS f.vars s)) w10):=by
         rw [HF.out,if_neg (by decide)]
         show World.ownsRow _ _ _ _ _ _ _
         rw [List.length_append,List.map_append]
         exact h2
        clear h2 h3 HK HO2 HS2 O9
        go_wp2
        exact ⟨⟨k+1,by omega,by go_num,O10,B10⟩,by simp [intOf];omega⟩
     have hlt':(k:Int)<np:=by omega
     have kx:k<(ptsF f).length:=by have:=enp.out;omega
     obtain ⟨b,off,z,rfl,hb,TC,QZ⟩:=HPP.out k kx
     have B0r:Below w0.heap.size w0 wr:=hw.trans (Bw.mono hw0)
     obtain ⟨a0,a1,a2,a3,a4,a5,a6,a7,a8,a9⟩:=TC.below hBr.out hb
     have cI:=IHp.out k kx z wr QZ B0r
     have CI:Hid (type_of% cI):=cI
     obtain ⟨hri,hrl⟩:=HRise.out k kx
     have cP:∀ (W:World) (v:Value),Below w.heap.size w W→OwnN w.heap.size u3 (uniN [upK f k]) W→OwnN w.heap.size v (fre (ptsF f)[k]).1 W→Calls Tryz.prog 70 #[u3,v] W fun e w'=>∃ v,e=.returned v∧OwnN w.heap.size v (uniN [upK f (k+1)]) w'∧Below W.heap.size W w':=fun W v h0 h1 h2=>by
      have l1:=uni1_len (upK f k)
      have l2:=HUL.out k
      have h:=rputs_any w.heap.size u3 v _ _ W h0.size h1 (h2.nms (by omega)) (by omega)
      rw [puts_up hri,← upK_succ f k kx] at h
      exact h
     have CP:Hid (type_of% cP):=cP
     obtain ⟨F2,eF2⟩:∃ F2:List ByteArray,Hid ((fre (ptsF f)[k]).1=F2):=⟨(fre (ptsF f)[k]).1,(show _=_ from rfl)⟩
     rw [eF2.out] at CI CP
     obtain ⟨N1,N2,N3,N4⟩:=QZ
     obtain ⟨zv,zt,zs,zr⟩:=z
     dsimp only at N1 N2 N3 N4 a0 a1 a2 a3 a4 a5 a6 a7 a8 a9 cI
     have CI2:Hid (Calls Tryz.prog 39 #[.agg #[.int .i64 (ptsF f)[k].k,.string (ptsF f)[k].nm,.int .i64 (ptsF f)[k].op,zv,zt,.int .i64 (ptsF f)[k].lo,.int .i64 (ptsF f)[k].hi,.bool (ptsF f)[k].opn,zs,zr]] wr fun e w'=>∃ v,e=.returned v∧OwnN wr.heap.size v F2 w'∧Below wr.heap.size wr w'):=CI
     obtain ⟨-,q1,d1,rfl, -⟩:=N1
     obtain ⟨q2,d2,rfl, -⟩:=N2.form
     obtain ⟨q3,d3,rfl, -⟩:=N3.form
     obtain ⟨q4,d4,rfl, -⟩:=N4.form
     clear TC N2 N3 N4 cI CI cP hri hrl eF2
     generalize (ptsF f)[k].k=Y0 at*
     generalize (ptsF f)[k].nm=Y1 at*
     generalize (ptsF f)[k].op=Y2 at*
     generalize (ptsF f)[k].lo=Y3 at*
     generalize (ptsF f)[k].hi=Y4 at*
     generalize (ptsF f)[k].opn=Y5 at*
     generalize (ptsF f)[k].vars.length=L1 at*
     generalize (ptsF f)[k].terms.length=L2 at*
     generalize (ptsF f)[k].subs.length=L3 at*
     generalize (ptsF f)[k].rgx.length=L4 at*
     have HO:Hid (OwnN w.heap.size u3 (uniN [upK f k]) wr):=hOr
     obtain ⟨p9,n9,c9,rfl⟩:=slice_ofA hOr.out
     clear hOr
     go_wp2_with fail
     refine CI2.out.mono ?_
     rintro e w4 ⟨v4,rfl,h4,hb4⟩
     have O4:Hid (OwnN w.heap.size (.slice p9 n9 c9) (uniN [upK f k]) w4):=HO.out.bel hb4
     have V4:Hid (OwnN w.heap.size v4 F2 w4):=own_monoB h4 Bw.size
     have B4:Below w.heap.size w w4:=Bw.trans (hb4.mono Bw.size)
     have K4:Hid (Below w3.heap.size w3 w4):=hBr.out.trans (hb4.mono hBr.out.size)
     obtain ⟨p4,n4,c4,rfl⟩:=slice_ofA V4.out
     clear h4 hb4 CI2 HO hBr Bw Xr a0 a1 a2 a3 a4 a5 a6 a7 a8 a9
     go_wp2_with fail
     refine (CP.out w4 _ B4 O4.out V4.out).mono ?_
     rintro e w5 ⟨v5,rfl,h5,hb5⟩
     have O5:Hid (_):=h5
     have K5:Hid (Below w3.heap.size w3 w5):=K4.out.trans (hb5.mono K4.out.size)
     clear h5 hb5 CP O4 V4 K4
     go_wp2
     exact ⟨⟨k+1,by omega,by go_num,O5,K5⟩,by simp [intOf];omega⟩
   have hlt':(k:Int)<n:=by omega
   have kx:k<f.terms.length:=by have:=en.out;omega
   obtain ⟨b,off,u,rfl,hb,TC,TS, -⟩:=HX.out k kx
   have hB0:Below w0.heap.size w0 wr:=hw.trans (hBr.mono hw0)
   obtain ⟨a0,a1,a2,a3,a4,a5,a6⟩:=TC.below hB0 hb
   have hle:=tvs_get_le f.terms k kx
   have hle2:=tvss_take_le f.terms k
   have hL:=HTL.out
   have cT:=rtvars_any w0 _ f.terms[k] u wr (Nat.le_refl _) TS hB0 (by omega)
   have CT:Hid (type_of% cT):=cT
   have cP:∀ (W:World) (v:Value),Below w.heap.size w W→OwnN w.heap.size u3 (uniN [tvss (f.terms.take k)]) W→OwnN w.heap.size v (uniN [tvs f.terms[k]]) W→Calls Tryz.prog 70 #[u3,v] W fun e w'=>∃ v,e=.returned v∧OwnN w.heap.size v (uniN [tvss (f.terms.take (k+1))]) w'∧Below W.heap.size W w':=fun W v h0 h1 h2=>by
    have l1:=uni1_len (tvss (f.terms.take k))
    have l2:=uni1_len (tvs f.terms[k])
    have h:=rputs_any w.heap.size u3 v _ _ W h0.size h1 (h2.nms (by omega)) (by omega)
    rw [puts_uni,← tvss_take f.terms k kx] at h
    exact h
   have CP:Hid (type_of% cP):=cP
   clear TC TS cT cP hle hle2 hL
   generalize f.terms[k].k=X0 at*
   generalize f.terms[k].nm=X1 at*
   generalize f.terms[k].v.k=X2 at*
   generalize f.terms[k].v.n=X3 at*
   generalize f.terms[k].v.d=X4 at*
   generalize f.terms[k].v.s=X5 at*
   have HO:Hid (OwnN w.heap.size u3 (uniN [tvss (f.terms.take k)]) wr):=hOr
   obtain ⟨p3,n3,c3,rfl⟩:=slice_ofA hOr.out
   clear hOr
   go_wp2_with fail
   refine CT.out.mono ?_
   rintro e w2 ⟨v2,rfl,h2,hb2⟩
   have O2:Hid (OwnN w.heap.size (.slice p3 n3 c3) (uniN [tvss (f.terms.take k)]) w2):=HO.out.bel hb2
   have V2:Hid (OwnN w.heap.size v2 (uniN [tvs f.terms[k]]) w2):=own_monoB h2 hBr.size
   have B2:Below w.heap.size w w2:=hBr.trans (hb2.mono hBr.size)
   have Z2:Hid (w2.heap[w.heap.size]? =w1.heap[w.heap.size]?):=(hb2.block w.heap.size hsz).trans hXr.out
   have hsz2:w.heap.size<w2.heap.size:=Nat.lt_of_lt_of_le hsz hb2.size
   obtain ⟨p4,n4,c4,rfl⟩:=slice_ofA V2.out
   clear h2 hb2 CT HO hXr a0 a1 a2 a3 a4 a5 a6 r6 hBr
   go_wp2_with fail
   refine (CP.out w2 _ B2 O2.out V2.out).mono ?_
   rintro e w3 ⟨v3,rfl,h3,hb3⟩
   have O3:Hid (_):=h3
   have B3:Below w.heap.size w w3:=B2.trans (hb3.mono B2.size)
   have Z3:Hid (w3.heap[w.heap.size]? =w1.heap[w.heap.size]?):=(hb3.block w.heap.size hsz2).trans Z2.out
   clear h3 hb3 CP O2 V2 Z2
   go_wp2
   exact ⟨⟨k+1,by omega,by go_num,O3,B3,Z3⟩,by simp [intOf];omega⟩
theorem wpW {P:Program} {c:Code} {Q:Exit→Act→World→Prop} {a:Act} {w:World} (h:∀ W,W=w→c.wp P Q a W):c.wp P Q a w:=h w rfl
def formB (u:Us) (nm:ByteArray) (op lo hi:Int) (o:Bool) (nv nt ns nr:Nat):Bool:=(u.nm || nm.toList==([]:List UInt8)) && (opB op u.op && ((u.iv || itvZ lo hi o) && (soB nv u.v && (soB nt u.t && (soB ns u.s && soB nr u.r)))))
theorem rform_any (k op lo hi:Int) (nm:ByteArray) (o:Bool) (pv pt ps pr:Option Addr) (nv cv nt ct ns cs nr cr:Nat) (w:World):
  Calls Tryz.prog 62 #[.agg #[.int .i64 k,.string nm,.int .i64 op,.slice pv nv cv,.slice pt nt ct,.int .i64 lo,.int .i64 hi,.bool o,.slice ps ns cs,.slice pr nr cr]] w fun r w'=>r=.returned (.bool (formB (usO k) nm op lo hi o nv nt ns nr))∧Below w.heap.size w w':=by
 have cU:Hid (∀ W:World,Calls Tryz.prog 92 #[.int .i64 k] W fun e w'=>e=.returned (.agg #[.bool (usO k).nm,.bool (usO k).op,.bool (usO k).iv,.int .i64 (usO k).v,.int .i64 (usO k).t,.int .i64 (usO k).s,.int .i64 (usO k).r])∧Below W.heap.size W w'):=fun W=>ruses_any k W
 have cA:Hid (∀ W:World,Calls Tryz.prog 93 #[.int .i64 (nv:Int),.int .i64 (usO k).v] W fun e w'=>e=.returned (.bool (soB nv (usO k).v))∧w'=W):=fun W=>rso_any _ _ W
 have cB:Hid (∀ W:World,Calls Tryz.prog 93 #[.int .i64 (nt:Int),.int .i64 (usO k).t] W fun e w'=>e=.returned (.bool (soB nt (usO k).t))∧w'=W):=fun W=>rso_any _ _ W
 have cC:Hid (∀ W:World,Calls Tryz.prog 93 #[.int .i64 (ns:Int),.int .i64 (usO k).s] W fun e w'=>e=.returned (.bool (soB ns (usO k).s))∧w'=W):=fun W=>rso_any _ _ W
 have cD:Hid (∀ W:World,Calls Tryz.prog 93 #[.int .i64 (nr:Int),.int .i64 (usO k).r] W fun e w'=>e=.returned (.bool (soB nr (usO k).r))∧w'=W):=fun W=>rso_any _ _ W
 obtain ⟨R,eR⟩:∃ R:Bool,Hid (R=formB (usO k) nm op lo hi o nv nt ns nr):=⟨_,rfl⟩
 rw [← eR.out]
 have hR0:Hid (R=(((usO k).nm || nm.toList==([]:List UInt8)) && (opB op (usO k).op && (((usO k).iv || itvZ lo hi o) && (soB nv (usO k).v && (soB nt (usO k).t && (soB ns (usO k).s && soB nr (usO k).r))))))):=eR.out
 clear eR
 generalize soB nv (usO k).v=A at*
 generalize soB nt (usO k).t=B at*
 generalize soB ns (usO k).s=C at*
 generalize soB nr (usO k).r=D at*
 generalize (usO k).nm=un at*
 generalize (usO k).op=uo at*
 generalize (usO k).iv=ui at*
 generalize (usO k).v=uv at*
 generalize (usO k).t=ut at*
 generalize (usO k).s=us at*
 generalize (usO k).r=ur at*
 obtain ⟨P1,hP1⟩:∃ b:Bool,Hid (b=(un || nm.toList==([]:List UInt8))):=⟨_,rfl⟩
 obtain ⟨P2,hP2⟩:∃ b:Bool,Hid (b=opB op uo):=⟨_,rfl⟩
 obtain ⟨P3,hP3⟩:∃ b:Bool,Hid (b=(ui || itvZ lo hi o)):=⟨_,rfl⟩
 have hR:Hid (R=(P1 && (P2 && (P3 && (A && (B && (C && D))))))):=by rw [hP1.out,hP2.out,hP3.out];exact hR0.out
 clear hR0
 go_enter Tryz.func62,Tryz.ntmps62
 go_wp2_with fail
 refine (cU.out _).mono ?_
 rintro r w1 ⟨rfl,hb1⟩
 have hB1:Below w.heap.size w w1:=Below.trans (by go_grown) (hb1.mono (by simp))
 have HX1:Hid (w1.heap[w.heap.size]? =_):=(hb1.block w.heap.size (by simp)).trans (heap_allocA w _)
 have hs1:w.heap.size<w1.heap.size:=blkL HX1.out
 clear hb1 cU
 go_upto_region 2 with fail
 refine wpW ?_
 intro W0 hW0
 have kA:Below w1.heap.size w1 W0:=by rw [hW0];go_grown
 have hUB:Hid (W0.heap[w1.heap.size]? =some (.cells #[.bool un,.bool uo,.bool ui,.int .i64 uv,.int .i64 ut,.int .i64 us,.int .i64 ur] 126 (0,0))):=by rw [hW0];exact heap_allocA w1 _
 have hFB:Hid (W0.heap[w.heap.size]? =some (.cells #[.int .i64 k,.string nm,.int .i64 op,.slice pv nv cv,.slice pt nt ct,.int .i64 lo,.int .i64 hi,.bool o,.slice ps ns cs,.slice pr nr cr] 29 (0,0))):=blkB HX1.out kA
 have K0:Below w.heap.size w W0:=hB1.trans (kA.mono hB1.size)
 clear hW0 HX1 kA hB1
 have e0:W0.cell? ⟨w.heap.size,0,none⟩=some (.int .i64 k):=by rw [Lib.cell_of_heap hFB.out];rfl
 have e1:W0.cell? ⟨w.heap.size,1,none⟩=some (.string nm):=by rw [Lib.cell_of_heap hFB.out];rfl
 have e2:W0.cell? ⟨w.heap.size,2,none⟩=some (.int .i64 op):=by rw [Lib.cell_of_heap hFB.out];rfl
 have e3:W0.cell? ⟨w.heap.size,3,none⟩=some (.slice pv nv cv):=by rw [Lib.cell_of_heap hFB.out];rfl
 have e4:W0.cell? ⟨w.heap.size,4,none⟩=some (.slice pt nt ct):=by rw [Lib.cell_of_heap hFB.out];rfl
 have e5:W0.cell? ⟨w.heap.size,5,none⟩=some (.int .i64 lo):=by rw [Lib.cell_of_heap hFB.out];rfl
 have e6:W0.cell? ⟨w.heap.size,6,none⟩=some (.int .i64 hi):=by rw [Lib.cell_of_heap hFB.out];rfl
 have e7:W0.cell? ⟨w.heap.size,7,none⟩=some (.bool o):=by rw [Lib.cell_of_heap hFB.out];rfl
 have e8:W0.cell? ⟨w.heap.size,8,none⟩=some (.slice ps ns cs):=by rw [Lib.cell_of_heap hFB.out];rfl
 have e9:W0.cell? ⟨w.heap.size,9,none⟩=some (.slice pr nr cr):=by rw [Lib.cell_of_heap hFB.out];rfl
 have g0:W0.cell? ⟨w1.heap.size,0,none⟩=some (.bool un):=by rw [Lib.cell_of_heap hUB.out];rfl
 have g1:W0.cell? ⟨w1.heap.size,1,none⟩=some (.bool uo):=by rw [Lib.cell_of_heap hUB.out];rfl
 have g2:W0.cell? ⟨w1.heap.size,2,none⟩=some (.bool ui):=by rw [Lib.cell_of_heap hUB.out];rfl
 have g3:W0.cell? ⟨w1.heap.size,3,none⟩=some (.int .i64 uv):=by rw [Lib.cell_of_heap hUB.out];rfl
 have g4:W0.cell? ⟨w1.heap.size,4,none⟩=some (.int .i64 ut):=by rw [Lib.cell_of_heap hUB.out];rfl
 have g5:W0.cell? ⟨w1.heap.size,5,none⟩=some (.int .i64 us):=by rw [Lib.cell_of_heap hUB.out];rfl
 have g6:W0.cell? ⟨w1.heap.size,6,none⟩=some (.int .i64 ur):=by rw [Lib.cell_of_heap hUB.out];rfl
 clear hFB hUB
 cases un with
 | true=>
  have z1:P1=true:=hP1.out
  cases uo with
  | false=>
   by_cases ho:op=0
   case neg=>
    have ho1:(op==0)=false:=by simp [ho]
    have ho2:(op != 0)=true:=by simp [ho]
    have hz:P2=false:=by rw [hP2.out];exact ho1
    go_wp2
    go_ret
    exact ⟨retb (by rw [hR.out,hz,Bool.false_and,Bool.and_false];try rfl),K0⟩
   have z2:P2=true:=by rw [hP2.out,ho];rfl
   have ho1:(op==0)=true:=by simp [ho]
   have ho2:(op != 0)=false:=by simp [ho]
   clear ho
   cases ui with
   | true=>
    have z3:P3=true:=hP3.out
    have hR2:Hid (R=(A && (B && (C && D)))):=by rw [hR.out,z1,z2,z3];rfl
    clear hR hP1 hP2 hP3 z1 z2 z3
    go_wp2_with fail
    refine (cA.out _).mono ?_
    rintro r w2 ⟨rfl,rfl⟩
    go_wp2_with fail
    refine (cB.out _).mono ?_
    rintro r w3 ⟨rfl,rfl⟩
    go_wp2_with fail
    refine (cC.out _).mono ?_
    rintro r w4 ⟨rfl,rfl⟩
    go_wp2_with fail
    refine (cD.out _).mono ?_
    rintro r w5 ⟨rfl,rfl⟩
    clear cA cB cC cD
    cases A with
    | false=>
     go_wp2
     go_ret
     exact ⟨retb hR2.out.symm,K0⟩
    | true=>
    cases B with
    | false=>
     go_wp2
     go_ret
     exact ⟨retb hR2.out.symm,K0⟩
    | true=>
    cases C with
    | false=>
     go_wp2
     go_ret
     exact ⟨retb hR2.out.symm,K0⟩
    | true=>
    go_wp2
    go_ret
    exact ⟨retb hR2.out.symm,K0⟩
   | false=>
    by_cases hl:lo=0
    case neg=>
     have hl1:(lo==0)=false:=by simp [hl]
     have hl2:(lo != 0)=true:=by simp [hl]
     have hz:P3=false:=by rw [hP3.out];unfold itvZ;rw [hl1];rfl
     go_wp2
     go_ret
     exact ⟨retb (by rw [hR.out,hz,Bool.false_and,Bool.and_false,Bool.and_false];try rfl),K0⟩
    have hl1:(lo==0)=true:=by simp [hl]
    by_cases hh:hi=0
    case neg=>
     have hh1:(hi==0)=false:=by simp [hh]
     have hh2:(hi != 0)=true:=by simp [hh]
     have hz:P3=false:=by rw [hP3.out];unfold itvZ;rw [hh1];simp
     go_wp2
     go_ret
     exact ⟨retb (by rw [hR.out,hz,Bool.false_and,Bool.and_false,Bool.and_false];try rfl),K0⟩
    have hh1:(hi==0)=true:=by simp [hh]
    cases o with
    | true=>
     have hz:P3=false:=by rw [hP3.out];unfold itvZ;simp
     go_wp2
     go_ret
     exact ⟨retb (by rw [hR.out,hz,Bool.false_and,Bool.and_false,Bool.and_false];try rfl),K0⟩
    | false=>
     have z3:P3=true:=by rw [hP3.out];unfold itvZ;rw [hl1,hh1];rfl
     subst hl hh
     have hR2:Hid (R=(A && (B && (C && D)))):=by rw [hR.out,z1,z2,z3];rfl
     clear hR hP1 hP2 hP3 z1 z2 z3
     go_wp2_with fail
     refine (cA.out _).mono ?_
     rintro r w2 ⟨rfl,rfl⟩
     go_wp2_with fail
     refine (cB.out _).mono ?_
     rintro r w3 ⟨rfl,rfl⟩
     go_wp2_with fail
     refine (cC.out _).mono ?_
     rintro r w4 ⟨rfl,rfl⟩
     go_wp2_with fail
     refine (cD.out _).mono ?_
     rintro r w5 ⟨rfl,rfl⟩
     clear cA cB cC cD
     cases A with
     | false=>
      go_wp2
      go_ret
      exact ⟨retb hR2.out.symm,K0⟩
     | true=>
     cases B with
     | false=>
      go_wp2
      go_ret
      exact ⟨retb hR2.out.symm,K0⟩
     | true=>
     cases C with
     | false=>
      go_wp2
      go_ret
      exact ⟨retb hR2.out.symm,K0⟩
     | true=>
     go_wp2
     go_ret
     exact ⟨retb hR2.out.symm,K0⟩
  | true=>
   by_cases ho:1≤op
   case neg=>
    have ho2:op<1:=by omega
    have hz:P2=false:=by rw [hP2.out];exact decide_eq_false (fun h=>ho h.1)
    go_wp2
    go_ret
    exact ⟨retb (by rw [hR.out,hz,Bool.false_and,Bool.and_false];try rfl),K0⟩
   have ho3:¬ op<1:=by omega
   by_cases hp:op≤6
   case neg=>
    have ho2:6<op:=by omega
    have hz:P2=false:=by rw [hP2.out];exact decide_eq_false (fun h=>hp h.2)
    go_wp2
    go_ret
    exact ⟨retb (by rw [hR.out,hz,Bool.false_and,Bool.and_false];try rfl),K0⟩
   have ho2:¬ 6<op:=by omega
   have z2:P2=true:=by rw [hP2.out];exact decide_eq_true ⟨ho,hp⟩
   cases ui with
   | true=>
    have z3:P3=true:=hP3.out
    have hR2:Hid (R=(A && (B && (C && D)))):=by rw [hR.out,z1,z2,z3];rfl
    clear hR hP1 hP2 hP3 z1 z2 z3
    go_wp2_with fail
    refine (cA.out _).mono ?_
    rintro r w2 ⟨rfl,rfl⟩
    go_wp2_with fail
    refine (cB.out _).mono ?_
    rintro r w3 ⟨rfl,rfl⟩
    go_wp2_with fail
    refine (cC.out _).mono ?_
    rintro r w4 ⟨rfl,rfl⟩
    go_wp2_with fail
    refine (cD.out _).mono ?_
    rintro r w5 ⟨rfl,rfl⟩
    clear cA cB cC cD
    cases A with
    | false=>
     go_wp2
     go_ret
     exact ⟨retb hR2.out.symm,K0⟩
    | true=>
    cases B with
    | false=>
     go_wp2
     go_ret
     exact ⟨retb hR2.out.symm,K0⟩
    | true=>
    cases C with
    | false=>
     go_wp2
     go_ret
     exact ⟨retb hR2.out.symm,K0⟩
    | true=>
    go_wp2
    go_ret
    exact ⟨retb hR2.out.symm,K0⟩
   | false=>
    by_cases hl:lo=0
    case neg=>
     have hl1:(lo==0)=false:=by simp [hl]
     have hl2:(lo != 0)=true:=by simp [hl]
     have hz:P3=false:=by rw [hP3.out];unfold itvZ;rw [hl1];rfl
     go_wp2
     go_ret
     exact ⟨retb (by rw [hR.out,hz,Bool.false_and,Bool.and_false,Bool.and_false];try rfl),K0⟩
    have hl1:(lo==0)=true:=by simp [hl]
    by_cases hh:hi=0
    case neg=>
     have hh1:(hi==0)=false:=by simp [hh]
     have hh2:(hi != 0)=true:=by simp [hh]
     have hz:P3=false:=by rw [hP3.out];unfold itvZ;rw [hh1];simp
     go_wp2
     go_ret
     exact ⟨retb (by rw [hR.out,hz,Bool.false_and,Bool.and_false,Bool.and_false];try rfl),K0⟩
    have hh1:(hi==0)=true:=by simp [hh]
    cases o with
    | true=>
     have hz:P3=false:=by rw [hP3.out];unfold itvZ;simp
     go_wp2
     go_ret
     exact ⟨retb (by rw [hR.out,hz,Bool.false_and,Bool.and_false,Bool.and_false];try rfl),K0⟩
    | false=>
     have z3:P3=true:=by rw [hP3.out];unfold itvZ;rw [hl1,hh1];rfl
     subst hl hh
     have hR2:Hid (R=(A && (B && (C && D)))):=by rw [hR.out,z1,z2,z3];rfl
     clear hR hP1 hP2 hP3 z1 z2 z3
     go_wp2_with fail
     refine (cA.out _).mono ?_
     rintro r w2 ⟨rfl,rfl⟩
     go_wp2_with fail
     refine (cB.out _).mono ?_
     rintro r w3 ⟨rfl,rfl⟩
     go_wp2_with fail
     refine (cC.out _).mono ?_
     rintro r w4 ⟨rfl,rfl⟩
     go_wp2_with fail
     refine (cD.out _).mono ?_
     rintro r w5 ⟨rfl,rfl⟩
     clear cA cB cC cD
     cases A with
     | false=>
      go_wp2
      go_ret
      exact ⟨retb hR2.out.symm,K0⟩
     | true=>
     cases B with
     | false=>
      go_wp2
      go_ret
      exact ⟨retb hR2.out.symm,K0⟩
     | true=>
     cases C with
     | false=>
      go_wp2
      go_ret
      exact ⟨retb hR2.out.symm,K0⟩
     | true=>
     go_wp2
     go_ret
     exact ⟨retb hR2.out.symm,K0⟩
 | false=>
  cases hn:(nm.toList==([]:List UInt8)) with
  | false=>
   have hz:P1=false:=by rw [hP1.out,hn];rfl
   have hn2:(nm.toList != ([]:List UInt8))=true:=by simp [bne,hn]
   go_wp2
   go_ret
   exact ⟨retb (by rw [hR.out,hz,Bool.false_and];try rfl),K0⟩
  | true=>
   have z1:P1=true:=by rw [hP1.out,hn];rfl
   have hn2:(nm.toList != ([]:List UInt8))=false:=by simp [bne,hn]
   cases uo with
   | false=>
    by_cases ho:op=0
    case neg=>
     have ho1:(op==0)=false:=by simp [ho]
     have ho2:(op != 0)=true:=by simp [ho]
     have hz:P2=false:=by rw [hP2.out];exact ho1
     go_wp2
     go_ret
     exact ⟨retb (by rw [hR.out,hz,Bool.false_and,Bool.and_false];try rfl),K0⟩
    have z2:P2=true:=by rw [hP2.out,ho];rfl
    have ho1:(op==0)=true:=by simp [ho]
    have ho2:(op != 0)=false:=by simp [ho]
    clear ho
    cases ui with
    | true=>
     have z3:P3=true:=hP3.out
     have hR2:Hid (R=(A && (B && (C && D)))):=by rw [hR.out,z1,z2,z3];rfl
     clear hR hP1 hP2 hP3 z1 z2 z3
     go_wp2_with fail
     refine (cA.out _).mono ?_
     rintro r w2 ⟨rfl,rfl⟩
     go_wp2_with fail
     refine (cB.out _).mono ?_
     rintro r w3 ⟨rfl,rfl⟩
     go_wp2_with fail
     refine (cC.out _).mono ?_
     rintro r w4 ⟨rfl,rfl⟩
     go_wp2_with fail
     refine (cD.out _).mono ?_
     rintro r w5 ⟨rfl,rfl⟩
     clear cA cB cC cD
     cases A with
     | false=>
      go_wp2
      go_ret
      exact ⟨retb hR2.out.symm,K0⟩
     | true=>
     cases B with
     | false=>
      go_wp2
      go_ret
      exact ⟨retb hR2.out.symm,K0⟩
     | true=>
     cases C with
     | false=>
      go_wp2
      go_ret
      exact ⟨retb hR2.out.symm,K0⟩
     | true=>
     go_wp2
     go_ret
     exact ⟨retb hR2.out.symm,K0⟩
    | false=>
     by_cases hl:lo=0
     case neg=>
      have hl1:(lo==0)=false:=by simp [hl]
      have hl2:(lo != 0)=true:=by simp [hl]
      have hz:P3=false:=by rw [hP3.out];unfold itvZ;rw [hl1];rfl
      go_wp2
      go_ret
      exact ⟨retb (by rw [hR.out,hz,Bool.false_and,Bool.and_false,Bool.and_false];try rfl),K0⟩
     have hl1:(lo==0)=true:=by simp [hl]
     by_cases hh:hi=0
     case neg=>
      have hh1:(hi==0)=false:=by simp [hh]
      have hh2:(hi != 0)=true:=by simp [hh]
      have hz:P3=false:=by rw [hP3.out];unfold itvZ;rw [hh1];simp
      go_wp2
      go_ret
      exact ⟨retb (by rw [hR.out,hz,Bool.false_and,Bool.and_false,Bool.and_false];try rfl),K0⟩
     have hh1:(hi==0)=true:=by simp [hh]
     cases o with
     | true=>
      have hz:P3=false:=by rw [hP3.out];unfold itvZ;simp
      go_wp2
      go_ret
      exact ⟨retb (by rw [hR.out,hz,Bool.false_and,Bool.and_false,Bool.and_false];try rfl),K0⟩
     | false=>
      have z3:P3=true:=by rw [hP3.out];unfold itvZ;rw [hl1,hh1];rfl
      subst hl hh
      have hR2:Hid (R=(A && (B && (C && D)))):=by rw [hR.out,z1,z2,z3];rfl
      clear hR hP1 hP2 hP3 z1 z2 z3
      go_wp2_with fail
      refine (cA.out _).mono ?_
      rintro r w2 ⟨rfl,rfl⟩
      go_wp2_with fail
      refine (cB.out _).mono ?_
      rintro r w3 ⟨rfl,rfl⟩
      go_wp2_with fail
      refine (cC.out _).mono ?_
      rintro r w4 ⟨rfl,rfl⟩
      go_wp2_with fail
      refine (cD.out _).mono ?_
      rintro r w5 ⟨rfl,rfl⟩
      clear cA cB cC cD
      cases A with
      | false=>
       go_wp2
       go_ret
       exact ⟨retb hR2.out.symm,K0⟩
      | true=>
      cases B with
      | false=>
       go_wp2
       go_ret
       exact ⟨retb hR2.out.symm,K0⟩
      | true=>
      cases C with
      | false=>
       go_wp2
       go_ret
       exact ⟨retb hR2.out.symm,K0⟩
      | true=>
      go_wp2
      go_ret
      exact ⟨retb hR2.out.symm,K0⟩
   | true=>
    by_cases ho:1≤op
    case neg=>
     have ho2:op<1:=by omega
     have hz:P2=false:=by rw [hP2.out];exact decide_eq_false (fun h=>ho h.1)
     go_wp2
     go_ret
     exact ⟨retb (by rw [hR.out,hz,Bool.false_and,Bool.and_false];try rfl),K0⟩
    have ho3:¬ op<1:=by omega
    by_cases hp:op≤6
    case neg=>
     have ho2:6<op:=by omega
     have hz:P2=false:=by rw [hP2.out];exact decide_eq_false (fun h=>hp h.2)
     go_wp2
     go_ret
     exact ⟨retb (by rw [hR.out,hz,Bool.false_and,Bool.and_false];try rfl),K0⟩
    have ho2:¬ 6<op:=by omega
    have z2:P2=true:=by rw [hP2.out];exact decide_eq_true ⟨ho,hp⟩
    cases ui with
    | true=>
     have z3:P3=true:=hP3.out
     have hR2:Hid (R=(A && (B && (C && D)))):=by rw [hR.out,z1,z2,z3];rfl
     clear hR hP1 hP2 hP3 z1 z2 z3
     go_wp2_with fail
     refine (cA.out _).mono ?_
     rintro r w2 ⟨rfl,rfl⟩
     go_wp2_with fail
     refine (cB.out _).mono ?_
     rintro r w3 ⟨rfl,rfl⟩
     go_wp2_with fail
     refine (cC.out _).mono ?_
     rintro r w4 ⟨rfl,rfl⟩
     go_wp2_with fail
     refine (cD.out _).mono ?_
     rintro r w5 ⟨rfl,rfl⟩
     clear cA cB cC cD
     cases A with
     | false=>
      go_wp2
      go_ret
      exact ⟨retb hR2.out.symm,K0⟩
     | true=>
     cases B with
     | false=>
      go_wp2
      go_ret
      exact ⟨retb hR2.out.symm,K0⟩
     | true=>
     cases C with
     | false=>
      go_wp2
      go_ret
      exact ⟨retb hR2.out.symm,K0⟩
     | true=>
     go_wp2
     go_ret
     exact ⟨retb hR2.out.symm,K0⟩
    | false=>
     by_cases hl:lo=0
     case neg=>
      have hl1:(lo==0)=false:=by simp [hl]
      have hl2:(lo != 0)=true:=by simp [hl]
      have hz:P3=false:=by rw [hP3.out];unfold itvZ;rw [hl1];rfl
      go_wp2
      go_ret
      exact ⟨retb (by rw [hR.out,hz,Bool.false_and,Bool.and_false,Bool.and_false];try rfl),K0⟩
     have hl1:(lo==0)=true:=by simp [hl]
     by_cases hh:hi=0
     case neg=>
      have hh1:(hi==0)=false:=by simp [hh]
      have hh2:(hi != 0)=true:=by simp [hh]
      have hz:P3=false:=by rw [hP3.out];unfold itvZ;rw [hh1];simp
      go_wp2
      go_ret
      exact ⟨retb (by rw [hR.out,hz,Bool.false_and,Bool.and_false,Bool.and_false];try rfl),K0⟩
     have hh1:(hi==0)=true:=by simp [hh]
     cases o with
     | true=>
      have hz:P3=false:=by rw [hP3.out];unfold itvZ;simp
      go_wp2
      go_ret
      exact ⟨retb (by rw [hR.out,hz,Bool.false_and,Bool.and_false,Bool.and_false];try rfl),K0⟩
     | false=>
      have z3:P3=true:=by rw [hP3.out];unfold itvZ;rw [hl1,hh1];rfl
      subst hl hh
      have hR2:Hid (R=(A && (B && (C && D)))):=by rw [hR.out,z1,z2,z3];rfl
      clear hR hP1 hP2 hP3 z1 z2 z3
      go_wp2_with fail
      refine (cA.out _).mono ?_
      rintro r w2 ⟨rfl,rfl⟩
      go_wp2_with fail
      refine (cB.out _).mono ?_
      rintro r w3 ⟨rfl,rfl⟩
      go_wp2_with fail
      refine (cC.out _).mono ?_
      rintro r w4 ⟨rfl,rfl⟩
      go_wp2_with fail
      refine (cD.out _).mono ?_
      rintro r w5 ⟨rfl,rfl⟩
      clear cA cB cC cD
      cases A with
      | false=>
       go_wp2
       go_ret
       exact ⟨retb hR2.out.symm,K0⟩
      | true=>
      cases B with
      | false=>
       go_wp2
       go_ret
       exact ⟨retb hR2.out.symm,K0⟩
      | true=>
      cases C with
      | false=>
       go_wp2
       go_ret
       exact ⟨retb hR2.out.symm,K0⟩
      | true=>
      go_wp2
      go_ret
      exact ⟨retb hR2.out.symm,K0⟩
theorem form_eq (k op lo hi:Int) (nm:ByteArray) (o:Bool) (vs:List ByteArray) (nt ns nr:Nat) (hk:1≤k∧k≤22) (hm:manyB k vs.length nt=false) (hs:ns≤9223372036854775807):
  formedM (frm k) op lo hi nm o vs nt ns nr=(formB (usO k) nm op lo hi o vs.length nt ns nr && namedB (usO k) nm vs lo hi o):=by
 have hk':k=1∨k=2∨k=3∨k=4∨k=5∨k=6∨k=7∨k=8∨k=9∨k=10∨k=11∨k=12∨k=13∨k=14∨k=15∨k=16∨k=17∨k=18∨k=19∨k=20∨k=21∨k=22:=by omega
 unfold formedM formB namedB
 generalize vs.length=nv at*
 generalize namesB vs=b1
 generalize nameB nm=b2
 rcases hk' with rfl | rfl | rfl | rfl | rfl | rfl | rfl | rfl | rfl | rfl | rfl | rfl | rfl | rfl | rfl | rfl | rfl | rfl | rfl | rfl | rfl | rfl<;>
 ·simp [manyB] at hm
  rw [Bool.eq_iff_iff]
  simp [frm,usO,soB,itvB]
  grind
end Go.Proofs.YthodedagbbifbaaGreat
namespace Go.Proofs.YthodedagbbifbaaGreat
open Go.RowKit Go.Shelf
set_option linter.unusedVariables false
structure Fr (P:Nat→Prop) (w w':World):Prop where
 os:w'.os=w.os
 tape:w'.tape=w.tape
 output:w'.output=w.output
 size:w.heap.size≤w'.heap.size
 block:∀ k,k<w.heap.size→¬ P k→w'.heap[k]? =w.heap[k]?
theorem Fr.refl (P:Nat→Prop) (w:World):Fr P w w:=⟨rfl,rfl,rfl,Nat.le_refl _,fun _ _ _=>rfl⟩
theorem Fr.trans {P Q:Nat→Prop} {a b c:World} (h:Fr P a b) (k:Fr Q b c) (hQ:∀ i,Q i→P i∨a.heap.size≤i):Fr P a c:=
 ⟨k.os.trans h.os,k.tape.trans h.tape,k.output.trans h.output,Nat.le_trans h.size k.size,fun i hi hp=>(k.block i (Nat.lt_of_lt_of_le hi h.size) (fun q=>by rcases hQ i q with q | q;exact hp q;omega)).trans (h.block i hi hp)⟩
theorem Fr.setCell {P:Nat→Prop} {a b:World} (h:Fr P a b) {p:Addr} (hp:P p.block∨a.heap.size≤p.block) (u:Value):Fr P a (b.setCell p u):=
 h.trans (Q:=fun k=>k=p.block) ⟨rfl,rfl,rfl,by simp [World.setCell],fun k hk hn=>Below.heap_setCell _ _ _ _ hn⟩ (fun i e=>by subst e;exact hp)
theorem Fr.heap {P:Nat→Prop} {a b:World} (h:Fr P a b) {k:Nat} {o:Obj} (hk:a.heap[k]? =some o) (hp:¬ P k):b.heap[k]? =some o:=(h.block k (Array.getElem?_eq_some_iff.1 hk).1 hp).trans hk
theorem lt_heap {a:World} {k:Nat} {o:Obj} (hk:a.heap[k]? =some o):k<a.heap.size:=(Array.getElem?_eq_some_iff.1 hk).1
theorem set_heap {w:World} {b j:Nat} {cs:Array Value} {t:TypeId} {fr:Nat×Nat} (h:w.heap[b]? =some (.cells cs t fr)) (u:Value):(w.setCell ⟨b,j,none⟩ u).heap[b]? =some (.cells (cs.setIfInBounds j u) t fr):=by
 show (w.heap.modify b _)[b]? =_
 rw [Array.getElem?_modify,if_pos rfl,h]
 rfl
end Go.Proofs.YthodedagbbifbaaGreat
namespace Go.Proofs.YthodedagbbifbaaGreat
open Go.RowKit LX Go.Shelf
set_option linter.unusedVariables false
def WK (w:World) (q:Nat) (N M E:Int):Prop:=w.heap[q]? =some (.cells #[.int .i64 N,.int .i64 M,.int .i64 E] 68 (0,0))
def wrE (is:Bool) (e E:Int):Int:=if is=true∧E=0 then e else E
theorem rwrong_any (q:Nat) (N M E e:Int) (is:Bool) (w:World) (h:WK w q N M E):
  Calls Tryz.prog 60 #[.pointer (some ⟨q,0,none⟩),.bool is,.int .i64 e] w fun r w'=>(∃ v,r=.returned v)∧Hid (WK w' q N M (wrE is e E)∧Fr (fun k=>k=q) w w'):=by
 have h':w.heap[q]? =some (.cells #[.int .i64 N,.int .i64 M,.int .i64 E] 68 (0,0)):=h
 have y2:w.cell? ⟨q,2,none⟩=some (.int .i64 E):=(Lib.cell_of_heap h' _).trans rfl
 have f2:w.frozen? ⟨q,2,none⟩=false:=Lib.frozen_of_heap h' _
 have HH:Hid (_):=h'
 clear h h'
 cases is with
 | false=>
  have e1:wrE false e E=E:=by simp [wrE]
  rw [e1]
  clear e1
  go_enter Tryz.func60,Tryz.ntmps60
  go_wp2
  go_end0
  exact ⟨⟨_,rfl⟩,HH.out,Fr.refl _ _⟩
 | true=>
  by_cases hE:E=0
  ·subst hE
   have e1:wrE true e 0=e:=by simp [wrE]
   rw [e1]
   clear e1
   go_enter Tryz.func60,Tryz.ntmps60
   go_wp2
   go_end0
   exact ⟨⟨_,rfl⟩,set_heap HH.out _,(Fr.refl (fun k=>k=q) w).setCell (p:=⟨q,2,none⟩) (Or.inl rfl) _⟩
  ·have e1:wrE true e E=E:=by simp [wrE,hE]
   rw [e1]
   clear e1
   have hE':(E==0)=false:=by simpa using hE
   go_enter Tryz.func60,Tryz.ntmps60
   go_wp2
   go_end0
   exact ⟨⟨_,rfl⟩,HH.out,Fr.refl _ _⟩
def ndE (d N:Int):Int:=wrE (decide (256≤N)) 3 (wrE (decide (24<d)) 71 0)
theorem rnode_no (q:Nat) (N M E d:Int) (w:World) (h:WK w q N M E) (hE:¬ E=0):
  Calls Tryz.prog 59 #[.pointer (some ⟨q,0,none⟩),.int .i64 d] w fun r w'=>r=.returned (.bool false)∧w'=w:=by
 have h':w.heap[q]? =some (.cells #[.int .i64 N,.int .i64 M,.int .i64 E] 68 (0,0)):=h
 have y2:w.cell? ⟨q,2,none⟩=some (.int .i64 E):=(Lib.cell_of_heap h' _).trans rfl
 have hE':(E==0)=false:=by simpa using hE
 clear h h'
 go_enter Tryz.func59,Tryz.ntmps59
 go_wp2
 go_ret
 exact ⟨rfl,rfl⟩
theorem rnode_any (q:Nat) (N M d:Int) (w:World) (h:WK w q N M 0) (hN:0≤N∧N≤100000):
  Calls Tryz.prog 59 #[.pointer (some ⟨q,0,none⟩),.int .i64 d] w fun r w'=>r=.returned (.bool (ndE d N==0))∧Hid (WK w' q (N+1) (if M<d then d else M) (ndE d N)∧Fr (fun k=>k=q) w w'):=by
 have h':w.heap[q]? =some (.cells #[.int .i64 N,.int .i64 M,.int .i64 0] 68 (0,0)):=h
 have y2:w.cell? ⟨q,2,none⟩=some (.int .i64 0):=(Lib.cell_of_heap h' _).trans rfl
 have HH:Hid (WK w q N M 0):=h
 obtain ⟨E,hE⟩:∃ E,Hid (ndE d N=E):=⟨_,rfl⟩
 obtain ⟨Mx,hMx⟩:∃ Mx,Hid ((if M<d then d else M)=Mx):=⟨_,rfl⟩
 rw [hE.out,hMx.out]
 clear h h'
 go_enter Tryz.func59,Tryz.ntmps59
 go_wp2_with fail
 refine (rwrong_any q N M 0 71 (decide (24<d)) w HH.out).mono ?_
 rintro r w1 ⟨⟨v1,rfl⟩,h1⟩
 have z0:w1.cell? ⟨q,0,none⟩=some (.int .i64 N):=(Lib.cell_of_heap (show w1.heap[q]? =_ from h1.out.1) _).trans rfl
 go_wp2_with fail
 refine (rwrong_any q N M _ 3 (decide (256≤N)) w1 h1.out.1).mono ?_
 rintro r w2 ⟨⟨v2,rfl⟩,h2⟩
 have h2':WK w2 q N M (ndE d N):=h2.out.1
 rw [hE.out] at h2'
 have b2:w2.heap[q]? =some (.cells #[.int .i64 N,.int .i64 M,.int .i64 E] 68 (0,0)):=h2'
 have x0:w2.cell? ⟨q,0,none⟩=some (.int .i64 N):=(Lib.cell_of_heap b2 _).trans rfl
 have x1:w2.cell? ⟨q,1,none⟩=some (.int .i64 M):=(Lib.cell_of_heap b2 _).trans rfl
 have x2:w2.cell? ⟨q,2,none⟩=some (.int .i64 E):=(Lib.cell_of_heap b2 _).trans rfl
 have f0:w2.frozen? ⟨q,0,none⟩=false:=Lib.frozen_of_heap b2 _
 have f1:w2.frozen? ⟨q,1,none⟩=false:=Lib.frozen_of_heap b2 _
 have FF2:Hid (Fr (fun k=>k=q) w w2):=h1.out.2.trans h2.out.2 (fun _ e=>Or.inl e)
 have HB2:Hid (_):=b2
 have nw:IntKind.i64.wrap (N+1)=N+1:=by rw [IntKind.wrap_i64];omega
 have nw2:wrap64 (N+1)=N+1:=by unfold wrap64;omega
 clear h1 h2 h2' b2 z0
 by_cases hd:M<d
 ·have em:Hid (d=Mx):=by have e:=hMx.out;rw [if_pos hd] at e;exact e
  go_wp2
  go_ret
  exact ⟨rfl,by rw [← em.out];exact set_heap (set_heap HB2.out _) _,(FF2.out.setCell (p:=⟨q,0,none⟩) (Or.inl rfl) _).setCell (p:=⟨q,1,none⟩) (Or.inl rfl) _⟩
 ·have em:Hid (M=Mx):=by have e:=hMx.out;rw [if_neg hd] at e;exact e
  go_wp2
  go_ret
  exact ⟨rfl,by rw [← em.out];exact set_heap HB2.out _,FF2.out.setCell (p:=⟨q,0,none⟩) (Or.inl rfl) _⟩
end Go.Proofs.YthodedagbbifbaaGreat
