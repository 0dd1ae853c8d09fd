/- What the claims of this seat share: base. -/
import Derived.Test.YthodedagbbifbaaGreatZ02
import Derived.Deep.RegionWith
set_option maxRecDepth 100000
set_option maxHeartbeats 8000000
namespace Go.Proofs.YthodedagbbifbaaGreat
open Go.RowKit LX Go.Shelf
set_option linter.unusedVariables false
theorem own_monoB {w:World} {B B' e size n:Nat} {v:Value} {xs:List Value} (h:w.ownsRow B e size v n xs) (hB:B'≤B):w.ownsRow B' e size v n xs:=by
 obtain ⟨hL,⟨e,hn0⟩ | ⟨g,cap,cur,rfl,hg1,hg2⟩⟩:=h
 ·exact ⟨hL,.inl ⟨e,hn0⟩⟩
 ·exact ⟨hL,.inr ⟨g,cap,cur,rfl,Nat.le_trans hB hg1,hg2⟩⟩
theorem LstsAt.below {w w':World} {A:Value} {us:List Value} {rs:List (List ByteArray)} (h:LstsAt w A us rs) (hb:Below w.heap.size w w'):LstsAt w' A us rs:=by
 obtain ⟨h1,p,c,e,h2,h3⟩:=h
 refine ⟨h1,p,c,e,fun k hk=> ?_,fun k hk ky=>(h3 k hk ky).below hb⟩
 obtain ⟨b,off,e2,hB,hc⟩:=h2 k hk
 exact ⟨b,off,e2,Nat.lt_of_lt_of_le hB hb.size,(hb.cell (p:=⟨b,_,none⟩) hB).trans hc⟩
theorem lsts_two {W:World} {b:Nat} {u v:Value} {xs ys:List ByteArray} (hb:b<W.heap.size) (h0:W.cell? ⟨b,0,none⟩=some u) (h1:W.cell? ⟨b,1,none⟩=some v) (hx:NmsAt W u xs) (hy:NmsAt W v ys):LstsAt W (.slice (some ⟨b,0,none⟩) 2 2) [u,v] [xs,ys]:=by
 refine ⟨rfl,_,_,rfl,fun k hk=>⟨b,0,rfl,hb, ?_⟩,fun k hk ky=> ?_⟩
 ·rcases k with _ | _ | k
  ·exact h0
  ·exact h1
  ·simp at hk;omega
 ·rcases k with _ | _ | k
  ·exact hx
  ·exact hy
  ·simp at hk;omega
theorem freeLet_any (f:Fm) (q:FQ) (A:Value) (us:List Value) (rs:List (List ByteArray)) (w:World) (hA:LstsAt w A us rs) (hk:f.k=20∨f.k=21) (h2:1<us.length) (hy:1<rs.length) (h1:us.length≤1000000000) (B:Nat) (hO:OwnN B us[1] rs[1] w):
  Calls Tryz.prog 106 #[.agg #[.int .i64 f.k,.string f.nm,.int .i64 f.op,q.v,q.t,.int .i64 f.lo,.int .i64 f.hi,.bool f.opn,q.s,q.r],A] w fun e w'=>∃ v,e=.returned v∧OwnN B v rs[1] w'∧Below w.heap.size w w':=by
 obtain ⟨-,p,c,rfl,ha,hb⟩:=hA
 obtain ⟨b,off,rfl,hB,hc⟩:=ha 1 h2
 have HN:Hid (OwnN B us[1] rs[1] w):=hO
 clear ha hb hO
 generalize us[1]=u at*
 generalize rs[1]=r at*
 generalize us.length=n at*
 generalize f.lo=lo at*
 generalize f.hi=hi at*
 generalize f.nm=nm at*
 generalize f.opn=o at*
 generalize f.op=op at*
 generalize f.k=k at*
 obtain ⟨uv,ut,us,ur⟩:=q
 dsimp only
 have h2':(1:Int)<n:=by omega
 rcases hk with rfl | rfl
 ·go_enter Tryz.func106,Tryz.ntmps106
  go_wp2
  go_ret
  exact ⟨_,rfl,HN.out.bel ((Below.refl _ _).alloc (Nat.le_refl _) _),(Below.refl _ _).alloc (Nat.le_refl _) _⟩
 ·go_enter Tryz.func106,Tryz.ntmps106
  go_wp2
  go_ret
  exact ⟨_,rfl,HN.out.bel ((Below.refl _ _).alloc (Nat.le_refl _) _),(Below.refl _ _).alloc (Nat.le_refl _) _⟩
theorem freeOther_any (w0:World) (f:Fm) (q:FQ) (hq:QAt w0 (f,q)) (A:Value) (us:List Value) (rs:List (List ByteArray)) (w:World) (hw:Below w0.heap.size w0 w) (hA:LstsAt w A us rs) (h10:¬ f.k=10) (h19:¬ f.k=19) (h20:¬ f.k=20) (h21:¬ f.k=21)
  (l1:(tvss f.terms).length≤100000000) (l2:rs.flatten.length≤100000000) (l3:us.length≤1000000000):
  Calls Tryz.prog 106 #[.agg #[.int .i64 f.k,.string f.nm,.int .i64 f.op,q.v,q.t,.int .i64 f.lo,.int .i64 f.hi,.bool f.opn,q.s,q.r],A] w fun e w'=>∃ v,e=.returned v∧OwnN w.heap.size v (uniN [tvss f.terms,uniN rs]) w'∧Below w.heap.size w w':=by
 obtain ⟨uv,ut,uw,ur⟩:=q
 obtain ⟨h1,h2,h3,h4⟩:=hq
 dsimp only at h1 h2 h3 h4 ⊢
 obtain ⟨G,eG⟩:∃ G:List ByteArray,Hid (tvss f.terms=G):=⟨_,rfl⟩
 have cG:Hid (∀ W:World,Below w0.heap.size w0 W→Calls Tryz.prog 109 #[.slice none 0 0,ut] W fun e w'=>∃ v,e=.returned v∧OwnN W.heap.size v G w'∧Below W.heap.size W w'):=fun W hW=>by
  have h:=gathered_any w0 W.heap.size hW.size _ f.terms ut (.slice none 0 0) [] W (Nat.le_refl _) h2 hW (Nat.le_refl _) (OwnN.nil _ _) (by rw [List.nil_append];omega)
  rw [List.nil_append,eG.out] at h
  exact h
 rw [eG.out] at l1 ⊢
 have lu:(uniN rs).length≤100000000:=Nat.le_trans (uniN_len rs) l2
 have cU:Hid (∀ W:World,Below w.heap.size w W→Calls Tryz.prog 108 #[A] W fun e w'=>∃ v,e=.returned v∧OwnN W.heap.size v (uniN rs) w'∧Below W.heap.size W w'):=fun W hW=>union_any A us rs W (hA.below hW) (by omega) l3
 obtain ⟨-,pv,cv,rfl, -, -⟩:=h1
 obtain ⟨pt,ct,rfl, -⟩:=h2.form
 obtain ⟨ps,cs,rfl, -⟩:=h3.form
 obtain ⟨pr,cr,rfl,lr, -⟩:=h4.form
 obtain ⟨-,p,c,rfl, -⟩:=hA
 have hw0:=hw.size
 clear h2 h3 h4 eG
 generalize uniN rs=UR at*
 generalize f.vars.length=nv at*
 generalize f.terms.length=nt at*
 generalize f.subs.length=ns at*
 generalize f.rgx.length=nr at*
 generalize us.length=n at*
 generalize f.lo=lo at*
 generalize f.hi=hi at*
 generalize f.nm=nm at*
 generalize f.opn=o at*
 generalize f.op=op at*
 generalize f.k=k at*
 go_enter Tryz.func106,Tryz.ntmps106
 go_wp2_with fail
 refine (cG.out _ (hw.alloc hw0 _)).mono ?_
 rintro r w1 ⟨v1,rfl,hO1,hb1⟩
 have hB1:Below w.heap.size w w1:=((Below.refl _ _).alloc (Nat.le_refl _) _).trans (hb1.mono (by simp))
 have HN1:Hid (NmsAt w1 v1 G):=hO1.nms (by omega)
 have hz1:=hB1.size
 clear hO1 hb1 cG
 go_wp2_with fail
 refine (cU.out _ hB1).mono ?_
 rintro r w2 ⟨v2,rfl,hO2,hb2⟩
 have hB2:Below w.heap.size w w2:=hB1.trans (hb2.mono hz1)
 have HN2:Hid (NmsAt w2 v2 UR):=hO2.nms (by omega)
 have HN3:Hid (NmsAt w2 v1 G):=HN1.out.below hb2
 have hz2:=hB2.size
 clear hO2 hb2 cU HN1
 obtain ⟨p1,c1,rfl, -⟩:=HN3.out.form
 obtain ⟨p2,c2,rfl, -⟩:=HN2.out.form
 have HU:Hid (∀ (W:World) (b:Nat),Below w2.heap.size w2 W→b<W.heap.size→W.cell? ⟨b,0,none⟩=some (.slice p1 G.length c1)→W.cell? ⟨b,1,none⟩=some (.slice p2 UR.length c2)→Calls Tryz.prog 108 #[.slice (some ⟨b,0,none⟩) 2 2] W fun e w'=>∃ v,e=.returned v∧OwnN W.heap.size v (uniN [G,UR]) w'∧Below W.heap.size W w'):=fun W b h1 h2 h3 h4=>
  union_any _ _ _ W (lsts_two h2 h3 h4 (HN3.out.below h1) (HN2.out.below h1)) (by simp;omega) (by simp)
 have lg:(uniN [G,UR]).length≤9223372036854775807:=by have:=uniN_len [G,UR];simp at this;omega
 go_wp2_with fail
 refine (HU.out _ w2.heap.size ((Below.refl _ _).alloc (Nat.le_refl _) _) (by simp) (by simp [go_sem]) (by simp [go_sem])).mono ?_
 rintro r w3 ⟨v3,rfl,hO3,hb3⟩
 have hB3:Below w.heap.size w w3:=(hB2.alloc hz2 _).trans (hb3.mono (by simp;omega))
 have HN4:Hid (OwnN w.heap.size v3 (uniN [G,UR]) w3):=own_monoB hO3 (by simp;omega)
 clear hO3 hb3 HU
 go_wp2
 go_ret
 exact ⟨_,rfl,HN4.out,hB3⟩
theorem freeEx_any (f:Fm) (q:FQ) (w:World) (hv:NmsAt w q.v f.vars) (A:Value) (us:List Value) (rs:List (List ByteArray)) (hA:LstsAt w A us rs) (hk:f.k=10) (h2:0<us.length) (hy:0<rs.length) (h1:us.length≤1000000000) (l0:rs[0].length≤1000000000):
  Calls Tryz.prog 106 #[.agg #[.int .i64 f.k,.string f.nm,.int .i64 f.op,q.v,q.t,.int .i64 f.lo,.int .i64 f.hi,.bool f.opn,q.s,q.r],A] w fun e w'=>∃ v,e=.returned v∧OwnN w.heap.size v (rs[0].filter fun s=> !Lib.containsS f.vars s) w'∧Below w.heap.size w w':=by
 obtain ⟨-,p,c,rfl,ha,hb⟩:=hA
 obtain ⟨b,off,rfl,hB,hc⟩:=ha 0 h2
 rw [Nat.add_zero] at hc
 have HN:Hid (NmsAt w us[0] rs[0]):=hb 0 h2 hy
 clear ha hb
 obtain ⟨uv,ut,uw,ur⟩:=q
 dsimp only at hv ⊢
 have cW:Hid (∀ W:World,Below w.heap.size w W→Calls Tryz.prog 133 #[us[0],uv] W fun e w'=>∃ v,e=.returned v∧OwnN W.heap.size v (rs[0].filter fun s=> !Lib.containsS f.vars s) w'∧Below W.heap.size W w'):=fun W hW=>without_any _ _ _ _ W (HN.out.below hW) (hv.below hW) l0
 have lf:(rs[0].filter fun s=> !Lib.containsS f.vars s).length≤9223372036854775807:=Nat.le_trans (List.length_filter_le _ _) (by omega)
 generalize (rs[0].filter fun s=> !Lib.containsS f.vars s)=R at*
 obtain ⟨-,pv,cv,rfl, -, -⟩:=hv
 obtain ⟨-,px,cx,ex, -, -⟩:=HN.out
 rw [ex] at hc cW
 clear HN ex
 generalize rs[0].length=n0 at*
 generalize f.vars.length=nv at*
 generalize us.length=n at*
 generalize f.lo=lo at*
 generalize f.hi=hi at*
 generalize f.nm=nm at*
 generalize f.opn=o at*
 generalize f.op=op at*
 generalize f.k=k at*
 subst hk
 have h2':(0:Int)<n:=by omega
 go_enter Tryz.func106,Tryz.ntmps106
 go_upto_region 3 with fail
 go_region_with (go_at_call 133;refine (cW.out _ (by go_grown)).mono ?_;rintro e w1 ⟨v1,rfl,hO,hb1⟩;obtain ⟨hB1, -⟩:=bgX (n:=w.heap.size) (W0:=w) (by go_grown) (by go_size) hb1;have HF:Hid (OwnN w.heap.size v1 R w1):=own_monoB hO (by go_size);clear hb1 hO)
 all_goals (go_wp2;go_ret;exact ⟨_,rfl,HF.out,by first | assumption | go_grown⟩)
theorem NmsAt.drop1 {w:World} {b off n c:Nat} {vs:List ByteArray} (h:NmsAt w (.slice (some ⟨b,off,none⟩) n c) vs) (q:Option Addr) (hq:1<vs.length→q=some ⟨b,off+1,none⟩) (h1:1≤vs.length):NmsAt w (.slice q (vs.length - 1) (c - 1)) (vs.drop 1):=by
 obtain ⟨hl,p',c',e,hc,h⟩:=h
 injection e with e1 e2 e3
 subst e1 e3
 refine ⟨by rw [List.length_drop];omega,q,c - 1,by rw [List.length_drop],by rw [List.length_drop];omega, ?_⟩
 rcases h with h | ⟨b',off',h1',h2,h3⟩
 ·rw [h] at h1;simp at h1
 ·injection h1' with h1'
  injection h1' with q1 q2 q3
  subst q1 q2
  by_cases hl1:1<vs.length
  ·refine Or.inr ⟨b,off+1,hq hl1,h2,fun i hi=> ?_⟩
   rw [List.length_drop] at hi
   rw [List.getElem_drop,show off+1+i=off+(1+i) by omega]
   exact h3 (1+i) (by omega)
  ·exact Or.inl (List.drop_eq_nil_of_le (by omega))
theorem bdrewA {B:Nat} {a w:World} (n:Nat) (h:Below B a w):Below B a (w.drewN n):=⟨h.os,h.tape,h.output,h.size,h.block⟩
def fmE (f:Fm):Int:=if f.k<1∨22<f.k then 20 else if manyB f.k f.vars.length f.terms.length=true then 3 else if formedM (frm f.k) f.op f.lo f.hi f.nm f.opn f.vars f.terms.length f.subs.length f.rgx.length=false then 1 else if repN [] f.vars=true then 30 else if f.k=19 then (if Lib.containsS (f.vars.drop 1) f.nm=true then 30 else 0) else 0
theorem formed19 {op lo hi:Int} {nm:ByteArray} {o:Bool} {vars:List ByteArray} {nt ns nr:Nat} (h:formedM (frm 19) op lo hi nm o vars nt ns nr=true):1≤vars.length:=by
 unfold formedM at h
 simp only [Bool.and_eq_true,decide_eq_true_eq] at h
 have h1:=h.1.1
 have e:(frm 19).vl=1:=by decide
 rw [e] at h1
 omega
theorem cform_any (f:Fm) (V:Value) (pt ps pr:Option Addr) (ct cs cr:Nat) (w:World) (hV:NmsAt w V f.vars):
  Calls Tryz.prog 102 #[.agg #[.int .i64 f.k,.string f.nm,.int .i64 f.op,V,.slice pt f.terms.length ct,.int .i64 f.lo,.int .i64 f.hi,.bool f.opn,.slice ps f.subs.length cs,.slice pr f.rgx.length cr]] w fun r w'=>r=.returned (.int .i64 (fmE f))∧Below w.heap.size w w':=by
 have HV:Hid (NmsAt w V f.vars):=hV
 obtain ⟨pv,cv,rfl,hl,hc,HX0⟩:=hV.form
 have HX:Hid (∀ i (hi:i<f.vars.length),∃ b off,pv=some ⟨b,off,none⟩∧b<w.heap.size∧w.cell? ⟨b,off+i,none⟩=some (.string f.vars[i])):=HX0
 have cM:Hid (∀ W:World,Calls Tryz.prog 127 #[.agg #[.int .i64 f.k,.string f.nm,.int .i64 f.op,.slice pv f.vars.length cv,.slice pt f.terms.length ct,.int .i64 f.lo,.int .i64 f.hi,.bool f.opn,.slice ps f.subs.length cs,.slice pr f.rgx.length cr]] W fun r w'=>r=.returned (.bool (manyB f.k f.vars.length f.terms.length))∧Below W.heap.size W w'):=fun W=>toomany_any f.k f.op f.lo f.hi f.nm f.opn pv pt ps pr f.vars.length cv f.terms.length ct f.subs.length cs f.rgx.length cr W
 have cF:Hid (∀ W:World,Below w.heap.size w W→1≤f.k∧f.k≤22→Calls Tryz.prog 128 #[.agg #[.int .i64 f.k,.string f.nm,.int .i64 f.op,.slice pv f.vars.length cv,.slice pt f.terms.length ct,.int .i64 f.lo,.int .i64 f.hi,.bool f.opn,.slice ps f.subs.length cs,.slice pr f.rgx.length cr]] W fun r w'=>r=.returned (.bool (formedM (frm f.k) f.op f.lo f.hi f.nm f.opn f.vars f.terms.length f.subs.length f.rgx.length))∧Below W.heap.size W w'):=fun W hW hk=>formed_any f.k f.op f.lo f.hi f.nm f.opn _ f.vars pt ps pr f.terms.length ct f.subs.length cs f.rgx.length cr W (HV.out.below hW) hk
 have cR:Hid (∀ W:World,Below w.heap.size w W→Calls Tryz.prog 129 #[.slice pv f.vars.length cv] W fun r w'=>r=.returned (.bool (repN [] f.vars))∧w'=W):=fun W hW=>arep_any _ f.vars W (HV.out.below hW)
 have hE:Hid (fmE f=if f.k<1∨22<f.k then 20 else if manyB f.k f.vars.length f.terms.length=true then 3 else if formedM (frm f.k) f.op f.lo f.hi f.nm f.opn f.vars f.terms.length f.subs.length f.rgx.length=false then 1 else if repN [] f.vars=true then 30 else if f.k=19 then (if Lib.containsS (f.vars.drop 1) f.nm=true then 30 else 0) else 0):=rfl
 have h19:Hid (f.k=19→formedM (frm f.k) f.op f.lo f.hi f.nm f.opn f.vars f.terms.length f.subs.length f.rgx.length=true→1≤f.vars.length):=fun h1 h2=>by rw [h1] at h2;exact formed19 h2
 clear hV HX0
 generalize fmE f=E at*
 generalize manyB f.k f.vars.length f.terms.length=MB at*
 generalize formedM (frm f.k) f.op f.lo f.hi f.nm f.opn f.vars f.terms.length f.subs.length f.rgx.length=FB at*
 generalize repN [] f.vars=RB at*
 generalize f.k=k at*
 generalize f.op=op at*
 generalize f.lo=lo at*
 generalize f.hi=hi at*
 generalize f.nm=nm at*
 generalize f.opn=o at*
 generalize f.vars=vs at*
 generalize f.terms.length=nt at*
 generalize f.subs.length=ns at*
 generalize f.rgx.length=nr at*
 obtain ⟨nv,env⟩:∃ n:Nat,Hid (vs.length=n):=⟨_,rfl⟩
 rw [env.out] at HV cM cF cR hl hc h19 ⊢
 by_cases hk:k<1∨22<k
 ·have hE2:Hid (E=20):=by have h:=hE.out;rwa [if_pos hk] at h
  rcases hk with hk | hk
  ·go_enter Tryz.func102,Tryz.ntmps102
   go_wp2
   go_ret
   exact ⟨retI hE2.out.symm,by go_grown⟩
  ·have hk':¬ k<1:=by omega
   go_enter Tryz.func102,Tryz.ntmps102
   go_wp2
   go_ret
   exact ⟨retI hE2.out.symm,by go_grown⟩
 have hE1:Hid (E=if MB=true then 3 else if FB=false then 1 else if RB=true then 30 else if k=19 then (if Lib.containsS (vs.drop 1) nm=true then 30 else 0) else 0):=by have h:=hE.out;rwa [if_neg hk] at h
 have hk1:1≤k∧k≤22:=by omega
 have hk2:¬ k<1:=by omega
 have hk3:¬ 22<k:=by omega
 have cF1:Hid (∀ W:World,Below w.heap.size w W→Calls Tryz.prog 128 #[.agg #[.int .i64 k,.string nm,.int .i64 op,.slice pv nv cv,.slice pt nt ct,.int .i64 lo,.int .i64 hi,.bool o,.slice ps ns cs,.slice pr nr cr]] W fun r w'=>r=.returned (.bool FB)∧Below W.heap.size W w'):=fun W hW=>cF.out W hW hk1
 clear hE hk hk1 cF
 go_enter Tryz.func102,Tryz.ntmps102
 go_wp2_with fail
 refine (cM.out _).mono ?_
 rintro r w1 ⟨rfl,hb1⟩
 have x0:w1.cell? ⟨w.heap.size,0,none⟩=some (.int .i64 k):=(hb1.cell (p:=⟨w.heap.size,0,none⟩) (by simp)).trans (by simp [go_sem])
 have x1:w1.cell? ⟨w.heap.size,1,none⟩=some (.string nm):=(hb1.cell (p:=⟨w.heap.size,1,none⟩) (by simp)).trans (by simp [go_sem])
 have x2:w1.cell? ⟨w.heap.size,2,none⟩=some (.int .i64 op):=(hb1.cell (p:=⟨w.heap.size,2,none⟩) (by simp)).trans (by simp [go_sem])
 have x3:w1.cell? ⟨w.heap.size,3,none⟩=some (.slice pv nv cv):=(hb1.cell (p:=⟨w.heap.size,3,none⟩) (by simp)).trans (by simp [go_sem])
 have x4:w1.cell? ⟨w.heap.size,4,none⟩=some (.slice pt nt ct):=(hb1.cell (p:=⟨w.heap.size,4,none⟩) (by simp)).trans (by simp [go_sem])
 have x5:w1.cell? ⟨w.heap.size,5,none⟩=some (.int .i64 lo):=(hb1.cell (p:=⟨w.heap.size,5,none⟩) (by simp)).trans (by simp [go_sem])
 have x6:w1.cell? ⟨w.heap.size,6,none⟩=some (.int .i64 hi):=(hb1.cell (p:=⟨w.heap.size,6,none⟩) (by simp)).trans (by simp [go_sem])
 have x7:w1.cell? ⟨w.heap.size,7,none⟩=some (.bool o):=(hb1.cell (p:=⟨w.heap.size,7,none⟩) (by simp)).trans (by simp [go_sem])
 have x8:w1.cell? ⟨w.heap.size,8,none⟩=some (.slice ps ns cs):=(hb1.cell (p:=⟨w.heap.size,8,none⟩) (by simp)).trans (by simp [go_sem])
 have x9:w1.cell? ⟨w.heap.size,9,none⟩=some (.slice pr nr cr):=(hb1.cell (p:=⟨w.heap.size,9,none⟩) (by simp)).trans (by simp [go_sem])
 have hs1:w.heap.size<w1.heap.size:=by have:=hb1.size;simp at this;omega
 obtain ⟨hB1, -⟩:=bgX (n:=w.heap.size) (W0:=w) (by go_grown) (by go_size) hb1
 clear hb1 cM
 cases MB with
 | true=>
  have hE2:Hid (E=3):=by have h:=hE1.out;rwa [if_pos rfl] at h
  go_wp2
  go_ret
  exact ⟨retI hE2.out.symm,hB1⟩
 | false=>
 have hE2:Hid (E=if FB=false then 1 else if RB=true then 30 else if k=19 then (if Lib.containsS (vs.drop 1) nm=true then 30 else 0) else 0):=by have h:=hE1.out;rwa [if_neg (by decide)] at h
 clear hE1
 go_wp2_with fail
 refine (cF1.out _ hB1).mono ?_
 rintro r w2 ⟨rfl,hb2⟩
 have y0:=(hb2.cell (p:=⟨w.heap.size,0,none⟩) hs1).trans x0
 have y1:=(hb2.cell (p:=⟨w.heap.size,1,none⟩) hs1).trans x1
 have y2:=(hb2.cell (p:=⟨w.heap.size,2,none⟩) hs1).trans x2
 have y3:=(hb2.cell (p:=⟨w.heap.size,3,none⟩) hs1).trans x3
 have y4:=(hb2.cell (p:=⟨w.heap.size,4,none⟩) hs1).trans x4
 have y5:=(hb2.cell (p:=⟨w.heap.size,5,none⟩) hs1).trans x5
 have y6:=(hb2.cell (p:=⟨w.heap.size,6,none⟩) hs1).trans x6
 have y7:=(hb2.cell (p:=⟨w.heap.size,7,none⟩) hs1).trans x7
 have y8:=(hb2.cell (p:=⟨w.heap.size,8,none⟩) hs1).trans x8
 have y9:=(hb2.cell (p:=⟨w.heap.size,9,none⟩) hs1).trans x9
 have hs2:w.heap.size<w2.heap.size:=Nat.lt_of_lt_of_le hs1 hb2.size
 have hB2:Below w.heap.size w w2:=hB1.trans (hb2.mono hB1.size)
 clear hb2 cF1 hB1 hs1 x0 x1 x2 x3 x4 x5 x6 x7 x8 x9
 cases FB with
 | false=>
  have hE3:Hid (E=1):=by have h:=hE2.out;rwa [if_pos rfl] at h
  go_wp2
  go_ret
  exact ⟨retI hE3.out.symm,hB2⟩
 | true=>
 have hE3:Hid (E=if RB=true then 30 else if k=19 then (if Lib.containsS (vs.drop 1) nm=true then 30 else 0) else 0):=by have h:=hE2.out;rwa [if_neg (by decide)] at h
 have h19':Hid (k=19→1≤nv):=fun h=>h19.out h rfl
 clear hE2 h19
 go_wp2_with fail
 refine (cR.out _ hB2).mono ?_
 rintro r w3 ⟨rfl,rfl⟩
 clear cR
 cases RB with
 | true=>
  have hE4:Hid (E=30):=by have h:=hE3.out;rwa [if_pos rfl] at h
  go_wp2
  go_ret
  exact ⟨retI hE4.out.symm,hB2⟩
 | false=>
 have hE4:Hid (E=if k=19 then (if Lib.containsS (vs.drop 1) nm=true then 30 else 0) else 0):=by have h:=hE3.out;rwa [if_neg (by decide)] at h
 clear hE3
 by_cases hk19:k=19
 case neg=>
  have hE5:Hid (E=0):=by have h:=hE4.out;rwa [if_neg hk19] at h
  have hk':(k==19)=false:=by simp [hk19]
  go_upto_region 8 with fail
  go_quiet (fail)
  have K9:Below w.heap.size w (w3.drewN nq):=bdrewA nq hB2
  clear h19'
  go_wp2
  go_ret
  exact ⟨retI hE5.out.symm,K9⟩
 have hn1:=h19'.out hk19
 have hE5:Hid (E=if Lib.containsS (vs.drop 1) nm=true then 30 else 0):=by have h:=hE4.out;rwa [if_pos hk19] at h
 obtain ⟨b,off,rfl,hb, -⟩:=HX.out 0 (by have:=env.out;omega)
 have cK:Hid (∀ (W:World) (q:Option Addr),Below w.heap.size w W→(1<nv→q=some ⟨b,off+1,none⟩)→Calls Tryz.prog 79 #[.slice q (nv - 1) (cv - 1),.string nm] W fun e w'=>e=.returned (.bool (Lib.containsS (vs.drop 1) nm))∧w'=W):=fun W q hW hq=>by
  have h:=NmsAt.drop1 HV.out q (fun h=>hq (by have:=env.out;omega)) (by have:=env.out;omega)
  rw [env.out] at h
  exact acont_any _ _ nm W (h.below hW)
 generalize Lib.containsS (vs.drop 1) nm=CB at cK hE5
 subst hk19
 clear h19' hE4
 have hnv:(1:Int)≤nv:=by omega
 by_cases hc1:cv=1
 ·subst hc1
  have cK1:Hid (∀ m:Nat,Calls Tryz.prog 79 #[.slice (some ⟨b,off,none⟩) 0 0,.string nm] (w3.drewN m) fun e w'=>e=.returned (.bool CB)∧w'=w3.drewN m):=fun m=>by
   have h:=cK.out (w3.drewN m) (some ⟨b,off,none⟩) (bdrewA m hB2) (by omega)
   have e0:nv - 1=0:=by omega
   rwa [e0] at h
  go_upto_region 8 with fail
  go_quiet (first | (go_at_call 79;exact Calls.quiet_of_same (cK1.out _)))
  have K9:Below w.heap.size w (w3.drewN nq):=bdrewA nq hB2
  clear cK cK1
  cases CB with
  | true=>
   have hE6:Hid (E=30):=by have h:=hE5.out;rwa [if_pos rfl] at h
   go_wp2
   go_ret
   exact ⟨retI hE6.out.symm,K9⟩
  | false=>
   have hE6:Hid (E=0):=by have h:=hE5.out;rwa [if_neg (by decide)] at h
   go_wp2
   go_ret
   exact ⟨retI hE6.out.symm,K9⟩
 ·have cK1:Hid (∀ m:Nat,Calls Tryz.prog 79 #[.slice (some ⟨b,off+1,none⟩) (nv - 1) (cv - 1),.string nm] (w3.drewN m) fun e w'=>e=.returned (.bool CB)∧w'=w3.drewN m):=fun m=>cK.out (w3.drewN m) (some ⟨b,off+1,none⟩) (bdrewA m hB2) (fun _=>rfl)
  go_upto_region 8 with fail
  go_quiet (first | (go_at_call 79;exact Calls.quiet_of_same (cK1.out _)))
  have K9:Below w.heap.size w (w3.drewN nq):=bdrewA nq hB2
  clear cK cK1
  cases CB with
  | true=>
   have hE6:Hid (E=30):=by have h:=hE5.out;rwa [if_pos rfl] at h
   go_wp2
   go_ret
   exact ⟨retI hE6.out.symm,K9⟩
  | false=>
   have hE6:Hid (E=0):=by have h:=hE5.out;rwa [if_neg (by decide)] at h
   go_wp2
   go_ret
   exact ⟨retI hE6.out.symm,K9⟩
theorem nms_one {W:World} {b:Nat} {x:ByteArray} (hb:b<W.heap.size) (h:W.cell? ⟨b,0,none⟩=some (.string x)):NmsAt W (.slice (some ⟨b,0,none⟩) 1 1) [x]:=by
 refine ⟨by simp,_,_,rfl,by simp,Or.inr ⟨b,0,rfl,hb,fun i hi=> ?_⟩⟩
 rcases i with _ | i
 ·exact h
 ·simp at hi
theorem freeAgg_any (f:Fm) (q:FQ) (w:World) (hv:NmsAt w q.v f.vars) (A:Value) (hk:f.k=19) (h1:1≤f.vars.length) (l0:f.vars.length≤100000000):
  Calls Tryz.prog 106 #[.agg #[.int .i64 f.k,.string f.nm,.int .i64 f.op,q.v,q.t,.int .i64 f.lo,.int .i64 f.hi,.bool f.opn,q.s,q.r],A] w fun e w'=>∃ v,e=.returned v∧OwnN w.heap.size v (uniN [[f.nm],f.vars.drop 1]) w'∧Below w.heap.size w w':=by
 obtain ⟨uv,ut,uw,ur⟩:=q
 dsimp only at hv ⊢
 obtain ⟨pv,cv,rfl,hl,hc,HX⟩:=hv.form
 obtain ⟨b,off,rfl,hb, -⟩:=HX 0 h1
 have HU:Hid (∀ (W:World) (b1 b2:Nat) (q:Option Addr),Below w.heap.size w W→b1<W.heap.size→b2<W.heap.size→W.cell? ⟨b1,0,none⟩=some (.string f.nm)→W.cell? ⟨b2,0,none⟩=some (.slice (some ⟨b1,0,none⟩) 1 1)→W.cell? ⟨b2,1,none⟩=some (.slice q (f.vars.length - 1) (cv - 1))→(1<f.vars.length→q=some ⟨b,off+1,none⟩)→Calls Tryz.prog 108 #[.slice (some ⟨b2,0,none⟩) 2 2] W fun e w'=>∃ v,e=.returned v∧OwnN W.heap.size v (uniN [[f.nm],f.vars.drop 1]) w'∧Below W.heap.size W w'):=fun W b1 b2 q hW l1 l2 e1 e2 e3 hq=>
  union_any _ _ _ W (lsts_two l2 e2 e3 (nms_one l1 e1) ((NmsAt.drop1 hv q hq h1).below hW)) (by simp;omega) (by simp)
 have lf:(uniN [[f.nm],f.vars.drop 1]).length≤9223372036854775807:=by have h:=uniN_len [[f.nm],f.vars.drop 1];rw [List.flatten_cons,List.flatten_cons,List.flatten_nil,List.append_nil,List.length_append,List.length_drop,List.length_singleton] at h;omega
 clear hv HX
 generalize uniN [[f.nm],f.vars.drop 1]=R at*
 generalize f.vars.length=nv at*
 generalize f.lo=lo at*
 generalize f.hi=hi at*
 generalize f.nm=nm at*
 generalize f.opn=o at*
 generalize f.op=op at*
 generalize f.k=k at*
 subst hk
 have hnv:(1:Int)≤nv:=by omega
 by_cases hc1:cv=1
 ·subst hc1
  have HU1:Hid (∀ (W:World) (b1 b2:Nat),Below w.heap.size w W→b1<W.heap.size→b2<W.heap.size→W.cell? ⟨b1,0,none⟩=some (.string nm)→W.cell? ⟨b2,0,none⟩=some (.slice (some ⟨b1,0,none⟩) 1 1)→W.cell? ⟨b2,1,none⟩=some (.slice (some ⟨b,off,none⟩) 0 0)→Calls Tryz.prog 108 #[.slice (some ⟨b2,0,none⟩) 2 2] W fun e w'=>∃ v,e=.returned v∧OwnN W.heap.size v R w'∧Below W.heap.size W w'):=fun W b1 b2 a1 a2 a3 a4 a5 a6=>HU.out W b1 b2 (some ⟨b,off,none⟩) a1 a2 a3 a4 a5 (by rw [show nv - 1=0 by omega];exact a6) (by omega)
  clear HU
  go_enter Tryz.func106,Tryz.ntmps106
  go_upto_region 5 with fail
  go_region_with (go_at_call 108;refine (HU1.out _ (w.heap.size+1) (w.heap.size+2) (by go_grown) (by simp) (by simp) (by simp [go_sem]) (by simp [go_sem]) (by simp [go_sem])).mono ?_;rintro e w1 ⟨v1,rfl,hO,hb1⟩;obtain ⟨hB1, -⟩:=bgX (n:=w.heap.size) (W0:=w) (by go_grown) (by go_size) hb1;have HF:Hid (OwnN w.heap.size v1 R w1):=own_monoB hO (by go_size);clear hb1 hO)
  all_goals (go_wp2;go_ret;exact ⟨_,rfl,HF.out,by first | assumption | go_grown⟩)
 ·have HU1:Hid (∀ (W:World) (b1 b2:Nat),Below w.heap.size w W→b1<W.heap.size→b2<W.heap.size→W.cell? ⟨b1,0,none⟩=some (.string nm)→W.cell? ⟨b2,0,none⟩=some (.slice (some ⟨b1,0,none⟩) 1 1)→W.cell? ⟨b2,1,none⟩=some (.slice (some ⟨b,off+1,none⟩) (nv - 1) (cv - 1))→Calls Tryz.prog 108 #[.slice (some ⟨b2,0,none⟩) 2 2] W fun e w'=>∃ v,e=.returned v∧OwnN W.heap.size v R w'∧Below W.heap.size W w'):=fun W b1 b2 a1 a2 a3 a4 a5 a6=>HU.out W b1 b2 (some ⟨b,off+1,none⟩) a1 a2 a3 a4 a5 a6 (fun _=>rfl)
  clear HU
  go_enter Tryz.func106,Tryz.ntmps106
  go_upto_region 5 with fail
  go_region_with (go_at_call 108;refine (HU1.out _ (w.heap.size+1) (w.heap.size+2) (by go_grown) (by simp) (by simp) (by simp [go_sem]) (by simp [go_sem]) (by simp [go_sem])).mono ?_;rintro e w1 ⟨v1,rfl,hO,hb1⟩;obtain ⟨hB1, -⟩:=bgX (n:=w.heap.size) (W0:=w) (by go_grown) (by go_size) hb1;have HF:Hid (OwnN w.heap.size v1 R w1):=own_monoB hO (by go_size);clear hb1 hO)
  all_goals (go_wp2;go_ret;exact ⟨_,rfl,HF.out,by first | assumption | go_grown⟩)
theorem crx_any (r:Rx) (pt ps:Option Addr) (ct cs:Nat) (w:World):
  Calls Tryz.prog 131 #[.agg #[.int .i64 r.k,.slice pt r.test.length ct,.slice ps r.subs.length cs]] w fun e w'=>e=.returned (.int .i64 (rxE r))∧Below w.heap.size w w':=by
 obtain ⟨E,hE⟩:∃ E:Int,Hid (E=rxE r):=⟨_,rfl⟩
 have hE0:=hE.out
 unfold rxE at hE0
 rw [← hE.out]
 have hE1:Hid (E=if r.k<1∨5<r.k then 20 else if r.test.length≠(if r.k=2 then 1 else 0)∨r.subs.length≠(if r.k=3∨r.k=4 then 2 else if r.k=5 then 1 else 0) then 1 else 0):=hE0
 clear hE hE0
 generalize r.test.length=nt at*
 generalize r.subs.length=ns at*
 generalize r.k=k at*
 by_cases h1:k=1
 ·subst h1
  have hE2:Hid (E=if nt≠0∨ns≠0 then 1 else 0):=by have h:=hE1.out;unfold Hid;simpa using h
  clear hE1
  by_cases ha:nt=0
  case neg=>
   have hE3:Hid (E=1):=by have h:=hE2.out;rwa [if_pos (Or.inl ha)] at h
   have ha':¬ (nt:Int)=0:=by omega
   go_enter Tryz.func131,Tryz.ntmps131
   go_wp2
   go_ret
   exact ⟨retI hE3.out.symm,by go_grown⟩
  by_cases hb:ns=0
  case neg=>
   have hE3:Hid (E=1):=by have h:=hE2.out;rwa [if_pos (Or.inr hb)] at h
   have hb':¬ (ns:Int)=0:=by omega
   subst ha
   go_enter Tryz.func131,Tryz.ntmps131
   go_wp2
   go_ret
   exact ⟨retI hE3.out.symm,by go_grown⟩
  have hE3:Hid (E=0):=by have h:=hE2.out;rwa [if_neg (by omega)] at h
  subst ha hb
  go_enter Tryz.func131,Tryz.ntmps131
  go_wp2
  go_ret
  exact ⟨retI hE3.out.symm,by go_grown⟩
 by_cases h2:k=2
 ·subst h2
  have hE2:Hid (E=if nt≠1∨ns≠0 then 1 else 0):=by have h:=hE1.out;unfold Hid;simpa using h
  clear hE1
  by_cases ha:nt=1
  case neg=>
   have hE3:Hid (E=1):=by have h:=hE2.out;rwa [if_pos (Or.inl ha)] at h
   have ha':¬ (nt:Int)=1:=by omega
   go_enter Tryz.func131,Tryz.ntmps131
   go_wp2
   go_ret
   exact ⟨retI hE3.out.symm,by go_grown⟩
  by_cases hb:ns=0
  case neg=>
   have hE3:Hid (E=1):=by have h:=hE2.out;rwa [if_pos (Or.inr hb)] at h
   have hb':¬ (ns:Int)=0:=by omega
   subst ha
   go_enter Tryz.func131,Tryz.ntmps131
   go_wp2
   go_ret
   exact ⟨retI hE3.out.symm,by go_grown⟩
  have hE3:Hid (E=0):=by have h:=hE2.out;rwa [if_neg (by omega)] at h
  subst ha hb
  go_enter Tryz.func131,Tryz.ntmps131
  go_wp2
  go_ret
  exact ⟨retI hE3.out.symm,by go_grown⟩
 by_cases h3:k=3
 ·subst h3
  have hE2:Hid (E=if nt≠0∨ns≠2 then 1 else 0):=by have h:=hE1.out;unfold Hid;simpa using h
  clear hE1
  by_cases ha:nt=0
  case neg=>
   have hE3:Hid (E=1):=by have h:=hE2.out;rwa [if_pos (Or.inl ha)] at h
   have ha':¬ (nt:Int)=0:=by omega
   go_enter Tryz.func131,Tryz.ntmps131
   go_wp2
   go_ret
   exact ⟨retI hE3.out.symm,by go_grown⟩
  by_cases hb:ns=2
  case neg=>
   have hE3:Hid (E=1):=by have h:=hE2.out;rwa [if_pos (Or.inr hb)] at h
   have hb':¬ (ns:Int)=2:=by omega
   subst ha
   go_enter Tryz.func131,Tryz.ntmps131
   go_wp2
   go_ret
   exact ⟨retI hE3.out.symm,by go_grown⟩
  have hE3:Hid (E=0):=by have h:=hE2.out;rwa [if_neg (by omega)] at h
  subst ha hb
  go_enter Tryz.func131,Tryz.ntmps131
  go_wp2
  go_ret
  exact ⟨retI hE3.out.symm,by go_grown⟩
 by_cases h4:k=4
 ·subst h4
  have hE2:Hid (E=if nt≠0∨ns≠2 then 1 else 0):=by have h:=hE1.out;unfold Hid;simpa using h
  clear hE1
  by_cases ha:nt=0
  case neg=>
   have hE3:Hid (E=1):=by have h:=hE2.out;rwa [if_pos (Or.inl ha)] at h
   have ha':¬ (nt:Int)=0:=by omega
   go_enter Tryz.func131,Tryz.ntmps131
   go_wp2
   go_ret
   exact ⟨retI hE3.out.symm,by go_grown⟩
  by_cases hb:ns=2
  case neg=>
   have hE3:Hid (E=1):=by have h:=hE2.out;rwa [if_pos (Or.inr hb)] at h
   have hb':¬ (ns:Int)=2:=by omega
   subst ha
   go_enter Tryz.func131,Tryz.ntmps131
   go_wp2
   go_ret
   exact ⟨retI hE3.out.symm,by go_grown⟩
  have hE3:Hid (E=0):=by have h:=hE2.out;rwa [if_neg (by omega)] at h
  subst ha hb
  go_enter Tryz.func131,Tryz.ntmps131
  go_wp2
  go_ret
  exact ⟨retI hE3.out.symm,by go_grown⟩
 by_cases h5:k=5
 ·subst h5
  have hE2:Hid (E=if nt≠0∨ns≠1 then 1 else 0):=by have h:=hE1.out;unfold Hid;simpa using h
  clear hE1
  by_cases ha:nt=0
  case neg=>
   have hE3:Hid (E=1):=by have h:=hE2.out;rwa [if_pos (Or.inl ha)] at h
   have ha':¬ (nt:Int)=0:=by omega
   go_enter Tryz.func131,Tryz.ntmps131
   go_wp2
   go_ret
   exact ⟨retI hE3.out.symm,by go_grown⟩
  by_cases hb:ns=1
  case neg=>
   have hE3:Hid (E=1):=by have h:=hE2.out;rwa [if_pos (Or.inr hb)] at h
   have hb':¬ (ns:Int)=1:=by omega
   subst ha
   go_enter Tryz.func131,Tryz.ntmps131
   go_wp2
   go_ret
   exact ⟨retI hE3.out.symm,by go_grown⟩
  have hE3:Hid (E=0):=by have h:=hE2.out;rwa [if_neg (by omega)] at h
  subst ha hb
  go_enter Tryz.func131,Tryz.ntmps131
  go_wp2
  go_ret
  exact ⟨retI hE3.out.symm,by go_grown⟩
 have hE2:Hid (E=20):=by have h:=hE1.out;rwa [if_pos (by omega)] at h
 clear hE1
 go_enter Tryz.func131,Tryz.ntmps131
 go_wp2
 go_ret
 exact ⟨retI hE2.out.symm,by go_grown⟩
def andT (x:Int×(Int×Int)) (K:Int×Int→Int×(Int×Int)):Int×(Int×Int):=if x.1=0 then K x.2 else x
theorem andT_ne {E:Int} {q:Int×Int} {K:Int×Int→Int×(Int×Int)} (h:¬ E=0):andT (E,q) K=(E,q):=if_neg h
theorem andT_eq {q:Int×Int} {K:Int×Int→Int×(Int×Int)}:andT (0,q) K=K q:=if_pos rfl
theorem andT_assoc (x:Int×(Int×Int)) (F G:Int×Int→Int×(Int×Int)):andT (andT x F) G=andT x fun s=>andT (F s) G:=by
 unfold andT
 by_cases h:x.1=0
 ·rw [if_pos h,if_pos h]
 ·rw [if_neg h,if_neg h,if_neg h]
section
mutual
def frun (dep:Int) (s:Int×Int):Fm→Int×(Int×Int)
 | .mk k nm op vars terms lo hi opn subs rgx=>andT (meetE dep s,meetS dep s) fun s1=>andT (fmE (.mk k nm op vars terms lo hi opn subs rgx),s1) fun s1=>andT (truns (dep+1) s1 terms) fun s2=>andT (rruns (dep+1) s2 rgx) fun s3=>fruns (dep+1) s3 subs
def fruns (dep:Int) (s:Int×Int):List Fm→Int×(Int×Int)
 | []=>(0,s)
 | f::l=>andT (frun dep s f) fun s1=>fruns dep s1 l
def rrun (dep:Int) (s:Int×Int):Rx→Int×(Int×Int)
 | .mk k test subs=>andT (meetE dep s,meetS dep s) fun s1=>andT (rxE (.mk k test subs),s1) fun s1=>andT (fruns (dep+1) s1 test) fun s2=>rruns (dep+1) s2 subs
def rruns (dep:Int) (s:Int×Int):List Rx→Int×(Int×Int)
 | []=>(0,s)
 | r::l=>andT (rrun dep s r) fun s1=>rruns dep s1 l
end
end
theorem frun_eq (dep:Int) (s:Int×Int) (f:Fm):frun dep s f=andT (meetE dep s,meetS dep s) fun s1=>andT (fmE f,s1) fun s1=>andT (truns (dep+1) s1 f.terms) fun s2=>andT (rruns (dep+1) s2 f.rgx) fun s3=>fruns (dep+1) s3 f.subs:=by
 cases f
 rw [frun]
 rfl
theorem rrun_eq (dep:Int) (s:Int×Int) (r:Rx):rrun dep s r=andT (meetE dep s,meetS dep s) fun s1=>andT (rxE r,s1) fun s1=>andT (fruns (dep+1) s1 r.test) fun s2=>rruns (dep+1) s2 r.subs:=by
 cases r
 rw [rrun]
 rfl
theorem fruns_nil (dep:Int) (s:Int×Int):fruns dep s []=(0,s):=by rw [fruns]
theorem fruns_cons (dep:Int) (s:Int×Int) (f:Fm) (l:List Fm):fruns dep s (f::l)=andT (frun dep s f) fun s1=>fruns dep s1 l:=by rw [fruns]
theorem rruns_nil (dep:Int) (s:Int×Int):rruns dep s []=(0,s):=by rw [rruns]
theorem rruns_cons (dep:Int) (s:Int×Int) (r:Rx) (l:List Rx):rruns dep s (r::l)=andT (rrun dep s r) fun s1=>rruns dep s1 l:=by rw [rruns]
def Runs (w0:World) (T:Nat) (fn:FuncId) (dep:Int) (V:Value) (F:Int×Int→Int×(Int×Int)):Prop:=∀ (W:World) (s:Int×Int),Below w0.heap.size w0 W→Tal T s W→OkS s→0≤dep→dep≤25→
    Calls Tryz.prog fn #[.pointer (some ⟨T,0,none⟩),.int .i64 dep,V] W fun r w'=>r=.returned (.int .i64 (F s).1)∧KeepT T W w'∧Tal T (F s).2 w'∧OkS (F s).2
theorem terms_runs (w0:World) (T:Nat) (hT0:w0.heap.size≤T) (dep:Int) (V:Value) (ts:List Tm) (h:TmsAt w0 V ts):Runs w0 T 103 dep V (fun s=>truns dep s ts):=fun W s hW hT hs h0 h1=>
 (terms_any w0 T hT0 _ ts V dep s W (Nat.le_refl _) h hW hT hs h0 h1).mono fun r w' ⟨a,b,c⟩=>⟨a,b,c,truns_ok _ ts dep s (Nat.le_refl _) hs h0⟩
theorem felem (w0:World) (T:Nat) (hT0:w0.heap.size≤T) (dep:Int) (f:Fm) (uv ut us ur:Value) (hv:NmsAt w0 uv f.vars) (ht:TmsAt w0 ut f.terms) (hs:FmsAt w0 us f.subs) (hr:RxsAt w0 ur f.rgx)
  (IF:Runs w0 T 77 (dep+1) us (fun s=>fruns (dep+1) s f.subs)) (IR:Runs w0 T 104 (dep+1) ur (fun s=>rruns (dep+1) s f.rgx)):
  ∃ (E2:Int) (GT GR GF:Int×Int→Int×(Int×Int)) (pv pt ps pr:Option Addr) (nv nt ns nr cv ct cs cr:Nat),uv=.slice pv nv cv∧ut=.slice pt nt ct∧us=.slice ps ns cs∧ur=.slice pr nr cr∧
   Hid (∀ W:World,Below w0.heap.size w0 W→Calls Tryz.prog 102 #[.agg #[.int .i64 f.k,.string f.nm,.int .i64 f.op,.slice pv nv cv,.slice pt nt ct,.int .i64 f.lo,.int .i64 f.hi,.bool f.opn,.slice ps ns cs,.slice pr nr cr]] W fun r w'=>r=.returned (.int .i64 E2)∧Below W.heap.size W w')∧
   Hid (Runs w0 T 103 (dep+1) (.slice pt nt ct) GT)∧Hid (Runs w0 T 104 (dep+1) (.slice pr nr cr) GR)∧Hid (Runs w0 T 77 (dep+1) (.slice ps ns cs) GF)∧
   ∀ (q:Int×Int) (K:Int×Int→Int×(Int×Int)),andT (frun dep q f) K=andT (meetE dep q,meetS dep q) fun s1=>andT (E2,s1) fun s1=>andT (GT s1) fun s2=>andT (GR s2) fun s3=>andT (GF s3) K:=by
 have hv0:=hv
 have ht0:=ht
 obtain ⟨-,pv,cv,rfl, -, -⟩:=hv
 obtain ⟨pt,ct,rfl, -⟩:=ht.form
 obtain ⟨ps,cs,rfl, -⟩:=hs.form
 obtain ⟨pr,cr,rfl, -⟩:=hr.form
 refine ⟨fmE f,_,_,_,pv,pt,ps,pr,_,_,_,_,cv,ct,cs,cr,rfl,rfl,rfl,rfl,fun W hW=>cform_any f _ pt ps pr ct cs cr W (hv0.below hW),terms_runs w0 T hT0 _ _ _ ht0,IR,IF,fun q K=> ?_⟩
 rw [frun_eq]
 simp only [andT_assoc]
theorem relem (w0:World) (T:Nat) (hT0:w0.heap.size≤T) (dep:Int) (r:Rx) (ut us:Value) (ht:FmsAt w0 ut r.test) (hs:RxsAt w0 us r.subs)
  (IF:Runs w0 T 77 (dep+1) ut (fun s=>fruns (dep+1) s r.test)) (IR:Runs w0 T 104 (dep+1) us (fun s=>rruns (dep+1) s r.subs)):
  ∃ (E2:Int) (GF GR:Int×Int→Int×(Int×Int)) (pt ps:Option Addr) (nt ns ct cs:Nat),ut=.slice pt nt ct∧us=.slice ps ns cs∧
   Hid (∀ W:World,Below w0.heap.size w0 W→Calls Tryz.prog 131 #[.agg #[.int .i64 r.k,.slice pt nt ct,.slice ps ns cs]] W fun r w'=>r=.returned (.int .i64 E2)∧Below W.heap.size W w')∧
   Hid (Runs w0 T 77 (dep+1) (.slice pt nt ct) GF)∧Hid (Runs w0 T 104 (dep+1) (.slice ps ns cs) GR)∧
   ∀ (q:Int×Int) (K:Int×Int→Int×(Int×Int)),andT (rrun dep q r) K=andT (meetE dep q,meetS dep q) fun s1=>andT (E2,s1) fun s1=>andT (GF s1) fun s2=>andT (GR s2) K:=by
 obtain ⟨pt,ct,rfl, -⟩:=ht.form
 obtain ⟨ps,cs,rfl, -⟩:=hs.form
 refine ⟨rxE r,_,_,pt,ps,_,_,ct,cs,rfl,rfl,fun W _=>crx_any r pt ps ct cs W,IF,IR,fun q K=> ?_⟩
 rw [rrun_eq]
 simp only [andT_assoc]
theorem forms_step (w0:World) (T:Nat) (hT0:w0.heap.size≤T) (m:Nat) (IF:∀ (fs:List Fm) (V:Value) (dep:Int),SizeOf.sizeOf fs≤m→FmsAt w0 V fs→Runs w0 T 77 dep V (fun s=>fruns dep s fs)) (IR:∀ (rs:List Rx) (V:Value) (dep:Int),SizeOf.sizeOf rs≤m→RxsAt w0 V rs→Runs w0 T 104 dep V (fun s=>rruns dep s rs)) (xs:List Fm) (V:Value) (dep:Int) (hm:SizeOf.sizeOf xs≤m+1) (hV:FmsAt w0 V xs):Runs w0 T 77 dep V (fun s=>fruns dep s xs):=by
 intro w s hw hT hs hd0 hd1
 obtain ⟨p,c,rfl,hl,hc,HX0⟩:=hV.form
 have HX:Hid (∀ i (hi:i<xs.length),∃ b off uv ut us ur,p=some ⟨b,off,none⟩∧b<w0.heap.size∧FmC w0 b (off+i*10) xs[i] uv ut us ur∧NmsAt w0 uv xs[i].vars∧TmsAt w0 ut xs[i].terms∧FmsAt w0 us xs[i].subs∧RxsAt w0 ur xs[i].rgx):=HX0
 have HIF:Hid (∀ (fs:List Fm) (V:Value) (dep:Int),SizeOf.sizeOf fs≤m→FmsAt w0 V fs→Runs w0 T 77 dep V (fun s=>fruns dep s fs)):=IF
 have HIR:Hid (∀ (rs:List Rx) (V:Value) (dep:Int),SizeOf.sizeOf rs≤m→RxsAt w0 V rs→Runs w0 T 104 dep V (fun s=>rruns dep s rs)):=IR
 have HT:Hid (Tal T s w):=hT
 have HS:Hid (OkS s):=hs
 have hTw:T<w.heap.size:=hT.lt
 have HM:Hid (SizeOf.sizeOf xs≤m+1):=hm
 clear hV HX0 IF IR hT hs hm
 show Calls Tryz.prog _ _ _ fun r w'=>r=.returned (.int .i64 (fruns dep s xs).1)∧KeepT T w w'∧Tal T (fruns dep s xs).2 w'∧OkS (fruns dep s xs).2
 obtain ⟨R,eR⟩:∃ R:Int×(Int×Int),Hid (fruns dep s xs=R):=⟨_,rfl⟩
 rw [eR.out]
 obtain ⟨n,en⟩:∃ n:Nat,Hid (xs.length=n):=⟨_,rfl⟩
 rw [en.out] at hl hc ⊢
 go_enter Tryz.func77,Tryz.ntmps77
 go_wp2
 go_loopw [12] (fun v wr=>∃ (k:Nat) (q:Int×Int),k≤n∧v=.int .i64 k∧Hid (R=fruns dep q (xs.drop k))∧KeepT T w wr∧Hid (Tal T q wr)∧Hid (OkS q)) (fun v _=>n - (intOf v).toNat)
 case atStart=>exact ⟨0,s,Nat.zero_le _,rfl,by rw [List.drop_zero];exact eR.out.symm,KeepT.refl _ _,HT,HS⟩
 case round=>
  obtain ⟨i,q,hk,rfl,hr,hK,hT,hs⟩:=hrel
  by_cases hlt:i<n
  case neg=>
   have c2:¬ (i:Int)<n:=by omega
   have hr2:Hid (R=(0,q)):=by
    have h:=hr.out
    rw [List.drop_eq_nil_of_le (by have:=en.out;omega),fruns_nil] at h
    exact h
   go_wp2
   go_ret
   rw [hr2.out]
   exact ⟨rfl,hK,hT.out,hs.out⟩
  have hlt':(i:Int)<n:=by omega
  have kx:i<xs.length:=by have:=en.out;omega
  obtain ⟨b,off,uv,ut,us,ur,rfl,hb,TC,NV,NT,NS,NR⟩:=HX.out i kx
  have hTr:T<wr.heap.size:=Nat.lt_of_lt_of_le hTw hK.size
  have hBr:Below w0.heap.size w0 wr:=hw.trans ((hK.below (B:=w0.heap.size) hT0 (Nat.le_of_lt hTw)))
  obtain ⟨a0,a1,a2,a3,a4,a5,a6,a7,a8,a9⟩:=TC.below hBr hb
  have hm1:=mem_lt i kx
  have hm3:=HM.out
  obtain ⟨E2,GT,GR,GF,pv,pt,ps,pr,nv,nt,ns,nr,cv,ct,cs,cr,rfl,rfl,rfl,rfl,cC,cT,cR,cF,hfe⟩:=felem w0 T hT0 dep xs[i] uv ut us ur NV NT NS NR (HIF.out _ _ _ (by have:=xs[i].subs_lt;omega) NS) (HIR.out _ _ _ (by have:=xs[i].rgx_lt;omega) NR)
  have hr2:Hid (R=andT (meetE dep q,meetS dep q) fun s1=>andT (E2,s1) fun s1=>andT (GT s1) fun s1=>andT (GR s1) fun s1=>andT (GF s1) fun s1=>fruns dep s1 (xs.drop (i+1))):=by
   have h:=hr.out
   rw [List.drop_eq_getElem_cons kx,fruns_cons,hfe] at h
   exact h
  clear TC hr hfe hm1 hm3
  generalize xs[i]=x at*
  have cM:Hid (∀ W:World,Tal T q W→Calls Tryz.prog 101 #[.pointer (some ⟨T,0,none⟩),.int .i64 dep] W fun r w'=>r=.returned (.int .i64 (meetE dep q))∧KeepT T W w'∧Tal T (meetS dep q) w'):=fun W hW=>meet_any T dep q W hW hs.out ⟨hd0,hd1⟩
  have HO1:Hid (OkS (meetS dep q)):=meetS_ok hs.out hd0
  have HL:Hid (meetE dep q=0→dep≤24):=meetE_le
  generalize meetS dep q=Q1 at*
  generalize meetE dep q=E1 at*
  generalize x.lo=lo at*
  generalize x.hi=hi at*
  generalize x.nm=nm at*
  generalize x.opn=o at*
  generalize x.op=op at*
  generalize x.k=k at*
  have hTne:wr.heap.size≠T:=by omega
  go_wp2_with fail
  refine (cM.out _ (Tal.alloc hT.out _)).mono ?_
  rintro r w2 ⟨rfl,hk2,ht2⟩
  have e0:w2.cell? ⟨wr.heap.size,0,none⟩=some (.int .i64 k):=(hk2.cell (p:=⟨wr.heap.size,0,none⟩) (by simp) hTne).trans (by simp [go_sem])
  have e1:w2.cell? ⟨wr.heap.size,1,none⟩=some (.string nm):=(hk2.cell (p:=⟨wr.heap.size,1,none⟩) (by simp) hTne).trans (by simp [go_sem])
  have e2:w2.cell? ⟨wr.heap.size,2,none⟩=some (.int .i64 op):=(hk2.cell (p:=⟨wr.heap.size,2,none⟩) (by simp) hTne).trans (by simp [go_sem])
  have e3:w2.cell? ⟨wr.heap.size,3,none⟩=some (.slice pv nv cv):=(hk2.cell (p:=⟨wr.heap.size,3,none⟩) (by simp) hTne).trans (by simp [go_sem])
  have e4:w2.cell? ⟨wr.heap.size,4,none⟩=some (.slice pt nt ct):=(hk2.cell (p:=⟨wr.heap.size,4,none⟩) (by simp) hTne).trans (by simp [go_sem])
  have e5:w2.cell? ⟨wr.heap.size,5,none⟩=some (.int .i64 lo):=(hk2.cell (p:=⟨wr.heap.size,5,none⟩) (by simp) hTne).trans (by simp [go_sem])
  have e6:w2.cell? ⟨wr.heap.size,6,none⟩=some (.int .i64 hi):=(hk2.cell (p:=⟨wr.heap.size,6,none⟩) (by simp) hTne).trans (by simp [go_sem])
  have e7:w2.cell? ⟨wr.heap.size,7,none⟩=some (.bool o):=(hk2.cell (p:=⟨wr.heap.size,7,none⟩) (by simp) hTne).trans (by simp [go_sem])
  have e8:w2.cell? ⟨wr.heap.size,8,none⟩=some (.slice ps ns cs):=(hk2.cell (p:=⟨wr.heap.size,8,none⟩) (by simp) hTne).trans (by simp [go_sem])
  have e9:w2.cell? ⟨wr.heap.size,9,none⟩=some (.slice pr nr cr):=(hk2.cell (p:=⟨wr.heap.size,9,none⟩) (by simp) hTne).trans (by simp [go_sem])
  have hK2:KeepT T w w2:=hK.trans ((KeepT.of ((Below.refl _ _).alloc (Nat.le_refl _) _)).trans hk2)
  have hz2:wr.heap.size<w2.heap.size:=by have:=hk2.size;simp at this;omega
  have HT2:Hid (Tal T Q1 w2):=ht2
  clear hk2 ht2 a0 a1 a2 a3 a4 a5 a6 a7 a8 a9 cM
  by_cases hE1:E1=0
  case neg=>
   have hE1'':(E1 != 0)=true:=by simp [hE1]
   have hR:Hid (R=(E1,Q1)):=hr2.out.trans (andT_ne hE1)
   go_wp2
   go_ret
   rw [hR.out]
   exact ⟨rfl,hK2,HT2.out,HO1.out⟩
  have hd2:dep≤24:=HL.out hE1
  subst hE1
  have hr3:Hid (R=_):=hr2.out.trans andT_eq
  have hB2:Below w0.heap.size w0 w2:=hw.trans (hK2.below hT0 (Nat.le_of_lt hTw))
  clear hr2 HL
  go_wp2_with fail
  refine (cC.out _ hB2).mono ?_
  rintro r w3 ⟨rfl,hb3⟩
  have g4:=(hb3.cell (p:=⟨wr.heap.size,4,none⟩) hz2).trans e4
  have g9:=(hb3.cell (p:=⟨wr.heap.size,9,none⟩) hz2).trans e9
  have g8:=(hb3.cell (p:=⟨wr.heap.size,8,none⟩) hz2).trans e8
  have hK3:KeepT T w w3:=hK2.trans (KeepT.of hb3)
  have HT3:Hid (Tal T Q1 w3):=HT2.out.below hb3
  have hB3:Below w0.heap.size w0 w3:=hw.trans (hK3.below hT0 (Nat.le_of_lt hTw))
  have hz3:wr.heap.size<w3.heap.size:=Nat.lt_of_lt_of_le hz2 hb3.size
  clear cC e0 e1 e2 e3 e4 e5 e6 e7 e8 e9 hb3 HT2 hB2
  by_cases hE2:E2=0
  case neg=>
   have hE2'':(E2 != 0)=true:=by simp [hE2]
   have hR:Hid (R=(E2,Q1)):=hr3.out.trans (andT_ne hE2)
   go_wp2
   go_ret
   rw [hR.out]
   exact ⟨rfl,hK3,HT3.out,HO1.out⟩
  subst hE2
  have hr4:Hid (R=_):=hr3.out.trans andT_eq
  clear hr3
  have hct:=cT.out w3 Q1 hB3 HT3.out HO1.out (by omega) (by omega)
  obtain ⟨⟨E3,Q3⟩,eq0⟩:∃ z,GT Q1=z:=⟨_,rfl⟩
  rw [eq0] at hct
  have hs0:Hid (R=andT (E3,Q3) fun s1=>andT (GR s1) fun s1=>andT (GF s1) fun s1=>fruns dep s1 (xs.drop (i+1))):=by have h:=hr4.out;rw [eq0] at h;exact h
  have CT:Hid (Calls Tryz.prog 103 #[.pointer (some ⟨T,0,none⟩),.int .i64 (dep+1),.slice pt nt ct] w3 fun r w'=>r=.returned (.int .i64 E3)∧KeepT T w3 w'∧Tal T Q3 w'∧OkS Q3):=hct
  clear hct cT eq0 hr4
  go_wp2_with fail
  refine CT.out.mono ?_
  rintro r w4 ⟨rfl,hk4,ht4,ho4⟩
  have hK4:KeepT T w w4:=hK3.trans hk4
  have HT4:Hid (Tal T Q3 w4):=ht4
  have HO4:Hid (OkS Q3):=ho4
  have hB4:Below w0.heap.size w0 w4:=hw.trans (hK4.below hT0 (Nat.le_of_lt hTw))
  have hz4:wr.heap.size<w4.heap.size:=Nat.lt_of_lt_of_le hz3 hk4.size
  have ga9:=(hk4.cell (p:=⟨wr.heap.size,9,none⟩) hz3 hTne).trans g9
  have ga8:=(hk4.cell (p:=⟨wr.heap.size,8,none⟩) hz3 hTne).trans g8
  clear CT hk4 ht4 ho4 g4 g9 g8
  by_cases hE3:E3=0
  case neg=>
   have hE':(E3 != 0)=true:=by simp [hE3]
   have hR:Hid (R=(E3,Q3)):=hs0.out.trans (andT_ne hE3)
   go_wp2
   go_ret
   rw [hR.out]
   exact ⟨rfl,hK4,HT4.out,HO4.out⟩
  subst hE3
  have hr5:Hid (R=_):=hs0.out.trans andT_eq
  clear hs0
  have hct:=cR.out w4 Q3 hB4 HT4.out HO4.out (by omega) (by omega)
  obtain ⟨⟨E4,Q4⟩,eq1⟩:∃ z,GR Q3=z:=⟨_,rfl⟩
  rw [eq1] at hct
  have hs1:Hid (R=andT (E4,Q4) fun s1=>andT (GF s1) fun s1=>fruns dep s1 (xs.drop (i+1))):=by have h:=hr5.out;rw [eq1] at h;exact h
  have CT:Hid (Calls Tryz.prog 104 #[.pointer (some ⟨T,0,none⟩),.int .i64 (dep+1),.slice pr nr cr] w4 fun r w'=>r=.returned (.int .i64 E4)∧KeepT T w4 w'∧Tal T Q4 w'∧OkS Q4):=hct
  clear hct cR eq1 hr5
  go_wp2_with fail
  refine CT.out.mono ?_
  rintro r w5 ⟨rfl,hk5,ht5,ho5⟩
  have hK5:KeepT T w w5:=hK4.trans hk5
  have HT5:Hid (Tal T Q4 w5):=ht5
  have HO5:Hid (OkS Q4):=ho5
  have hB5:Below w0.heap.size w0 w5:=hw.trans (hK5.below hT0 (Nat.le_of_lt hTw))
  have hz5:wr.heap.size<w5.heap.size:=Nat.lt_of_lt_of_le hz4 hk5.size
  have gb8:=(hk5.cell (p:=⟨wr.heap.size,8,none⟩) hz4 hTne).trans ga8
  clear CT hk5 ht5 ho5 ga9 ga8
  by_cases hE4:E4=0
  case neg=>
   have hE':(E4 != 0)=true:=by simp [hE4]
   have hR:Hid (R=(E4,Q4)):=hs1.out.trans (andT_ne hE4)
   go_wp2
   go_ret
   rw [hR.out]
   exact ⟨rfl,hK5,HT5.out,HO5.out⟩
  subst hE4
  have hr6:Hid (R=_):=hs1.out.trans andT_eq
  clear hs1
  have hct:=cF.out w5 Q4 hB5 HT5.out HO5.out (by omega) (by omega)
  obtain ⟨⟨E5,Q5⟩,eq2⟩:∃ z,GF Q4=z:=⟨_,rfl⟩
  rw [eq2] at hct
  have hs2:Hid (R=andT (E5,Q5) fun s1=>fruns dep s1 (xs.drop (i+1))):=by have h:=hr6.out;rw [eq2] at h;exact h
  have CT:Hid (Calls Tryz.prog 77 #[.pointer (some ⟨T,0,none⟩),.int .i64 (dep+1),.slice ps ns cs] w5 fun r w'=>r=.returned (.int .i64 E5)∧KeepT T w5 w'∧Tal T Q5 w'∧OkS Q5):=hct
  clear hct cF eq2 hr6
  go_wp2_with fail
  refine CT.out.mono ?_
  rintro r w6 ⟨rfl,hk6,ht6,ho6⟩
  have hK6:KeepT T w w6:=hK5.trans hk6
  have HT6:Hid (Tal T Q5 w6):=ht6
  have HO6:Hid (OkS Q5):=ho6
  have hB6:Below w0.heap.size w0 w6:=hw.trans (hK6.below hT0 (Nat.le_of_lt hTw))
  have hz6:wr.heap.size<w6.heap.size:=Nat.lt_of_lt_of_le hz5 hk6.size
  clear CT hk6 ht6 ho6 gb8
  by_cases hE5:E5=0
  case neg=>
   have hE':(E5 != 0)=true:=by simp [hE5]
   have hR:Hid (R=(E5,Q5)):=hs2.out.trans (andT_ne hE5)
   go_wp2
   go_ret
   rw [hR.out]
   exact ⟨rfl,hK6,HT6.out,HO6.out⟩
  subst hE5
  have hr7:Hid (R=_):=hs2.out.trans andT_eq
  clear hs2
  go_wp2
  exact ⟨⟨i+1,Q5,by omega,by go_num,hr7,hK6,HT6,HO6⟩,by simp [intOf];omega⟩
theorem regs_step (w0:World) (T:Nat) (hT0:w0.heap.size≤T) (m:Nat) (IF:∀ (fs:List Fm) (V:Value) (dep:Int),SizeOf.sizeOf fs≤m→FmsAt w0 V fs→Runs w0 T 77 dep V (fun s=>fruns dep s fs)) (IR:∀ (rs:List Rx) (V:Value) (dep:Int),SizeOf.sizeOf rs≤m→RxsAt w0 V rs→Runs w0 T 104 dep V (fun s=>rruns dep s rs)) (xs:List Rx) (V:Value) (dep:Int) (hm:SizeOf.sizeOf xs≤m+1) (hV:RxsAt w0 V xs):Runs w0 T 104 dep V (fun s=>rruns dep s xs):=by
 intro w s hw hT hs hd0 hd1
 obtain ⟨p,c,rfl,hl,hc,HX0⟩:=hV.form
 have HX:Hid (∀ i (hi:i<xs.length),∃ b off ut us,p=some ⟨b,off,none⟩∧b<w0.heap.size∧RxC w0 b (off+i*3) xs[i] ut us∧FmsAt w0 ut xs[i].test∧RxsAt w0 us xs[i].subs):=HX0
 have HIF:Hid (∀ (fs:List Fm) (V:Value) (dep:Int),SizeOf.sizeOf fs≤m→FmsAt w0 V fs→Runs w0 T 77 dep V (fun s=>fruns dep s fs)):=IF
 have HIR:Hid (∀ (rs:List Rx) (V:Value) (dep:Int),SizeOf.sizeOf rs≤m→RxsAt w0 V rs→Runs w0 T 104 dep V (fun s=>rruns dep s rs)):=IR
 have HT:Hid (Tal T s w):=hT
 have HS:Hid (OkS s):=hs
 have hTw:T<w.heap.size:=hT.lt
 have HM:Hid (SizeOf.sizeOf xs≤m+1):=hm
 clear hV HX0 IF IR hT hs hm
 show Calls Tryz.prog _ _ _ fun r w'=>r=.returned (.int .i64 (rruns dep s xs).1)∧KeepT T w w'∧Tal T (rruns dep s xs).2 w'∧OkS (rruns dep s xs).2
 obtain ⟨R,eR⟩:∃ R:Int×(Int×Int),Hid (rruns dep s xs=R):=⟨_,rfl⟩
 rw [eR.out]
 obtain ⟨n,en⟩:∃ n:Nat,Hid (xs.length=n):=⟨_,rfl⟩
 rw [en.out] at hl hc ⊢
 go_enter Tryz.func104,Tryz.ntmps104
 go_wp2
 go_loopw [12] (fun v wr=>∃ (k:Nat) (q:Int×Int),k≤n∧v=.int .i64 k∧Hid (R=rruns dep q (xs.drop k))∧KeepT T w wr∧Hid (Tal T q wr)∧Hid (OkS q)) (fun v _=>n - (intOf v).toNat)
 case atStart=>exact ⟨0,s,Nat.zero_le _,rfl,by rw [List.drop_zero];exact eR.out.symm,KeepT.refl _ _,HT,HS⟩
 case round=>
  obtain ⟨i,q,hk,rfl,hr,hK,hT,hs⟩:=hrel
  by_cases hlt:i<n
  case neg=>
   have c2:¬ (i:Int)<n:=by omega
   have hr2:Hid (R=(0,q)):=by
    have h:=hr.out
    rw [List.drop_eq_nil_of_le (by have:=en.out;omega),rruns_nil] at h
    exact h
   go_wp2
   go_ret
   rw [hr2.out]
   exact ⟨rfl,hK,hT.out,hs.out⟩
  have hlt':(i:Int)<n:=by omega
  have kx:i<xs.length:=by have:=en.out;omega
  obtain ⟨b,off,ut,us,rfl,hb,TC,NT,NS⟩:=HX.out i kx
  have hTr:T<wr.heap.size:=Nat.lt_of_lt_of_le hTw hK.size
  have hBr:Below w0.heap.size w0 wr:=hw.trans ((hK.below (B:=w0.heap.size) hT0 (Nat.le_of_lt hTw)))
  obtain ⟨a0,a1,a2⟩:=TC.below hBr hb
  have hm1:=mem_lt i kx
  have hm3:=HM.out
  obtain ⟨E2,GF,GR,pt,ps,nt,ns,ct,cs,rfl,rfl,cC,cF,cR,hfe⟩:=relem w0 T hT0 dep xs[i] ut us NT NS (HIF.out _ _ _ (by have:=xs[i].test_lt;omega) NT) (HIR.out _ _ _ (by have:=xs[i].subs_lt;omega) NS)
  have hr2:Hid (R=andT (meetE dep q,meetS dep q) fun s1=>andT (E2,s1) fun s1=>andT (GF s1) fun s1=>andT (GR s1) fun s1=>rruns dep s1 (xs.drop (i+1))):=by
   have h:=hr.out
   rw [List.drop_eq_getElem_cons kx,rruns_cons,hfe] at h
   exact h
  clear TC hr hfe hm1 hm3
  generalize xs[i]=x at*
  have cM:Hid (∀ W:World,Tal T q W→Calls Tryz.prog 101 #[.pointer (some ⟨T,0,none⟩),.int .i64 dep] W fun r w'=>r=.returned (.int .i64 (meetE dep q))∧KeepT T W w'∧Tal T (meetS dep q) w'):=fun W hW=>meet_any T dep q W hW hs.out ⟨hd0,hd1⟩
  have HO1:Hid (OkS (meetS dep q)):=meetS_ok hs.out hd0
  have HL:Hid (meetE dep q=0→dep≤24):=meetE_le
  generalize meetS dep q=Q1 at*
  generalize meetE dep q=E1 at*
  generalize x.k=k at*
  have hTne:wr.heap.size≠T:=by omega
  go_wp2_with fail
  refine (cM.out _ (Tal.alloc hT.out _)).mono ?_
  rintro r w2 ⟨rfl,hk2,ht2⟩
  have e0:w2.cell? ⟨wr.heap.size,0,none⟩=some (.int .i64 k):=(hk2.cell (p:=⟨wr.heap.size,0,none⟩) (by simp) hTne).trans (by simp [go_sem])
  have e1:w2.cell? ⟨wr.heap.size,1,none⟩=some (.slice pt nt ct):=(hk2.cell (p:=⟨wr.heap.size,1,none⟩) (by simp) hTne).trans (by simp [go_sem])
  have e2:w2.cell? ⟨wr.heap.size,2,none⟩=some (.slice ps ns cs):=(hk2.cell (p:=⟨wr.heap.size,2,none⟩) (by simp) hTne).trans (by simp [go_sem])
  have hK2:KeepT T w w2:=hK.trans ((KeepT.of ((Below.refl _ _).alloc (Nat.le_refl _) _)).trans hk2)
  have hz2:wr.heap.size<w2.heap.size:=by have:=hk2.size;simp at this;omega
  have HT2:Hid (Tal T Q1 w2):=ht2
  clear hk2 ht2 a0 a1 a2 cM
  by_cases hE1:E1=0
  case neg=>
   have hE1'':(E1 != 0)=true:=by simp [hE1]
   have hR:Hid (R=(E1,Q1)):=hr2.out.trans (andT_ne hE1)
   go_wp2
   go_ret
   rw [hR.out]
   exact ⟨rfl,hK2,HT2.out,HO1.out⟩
  have hd2:dep≤24:=HL.out hE1
  subst hE1
  have hr3:Hid (R=_):=hr2.out.trans andT_eq
  have hB2:Below w0.heap.size w0 w2:=hw.trans (hK2.below hT0 (Nat.le_of_lt hTw))
  clear hr2 HL
  go_wp2_with fail
  refine (cC.out _ hB2).mono ?_
  rintro r w3 ⟨rfl,hb3⟩
  have g1:=(hb3.cell (p:=⟨wr.heap.size,1,none⟩) hz2).trans e1
  have g2:=(hb3.cell (p:=⟨wr.heap.size,2,none⟩) hz2).trans e2
  have hK3:KeepT T w w3:=hK2.trans (KeepT.of hb3)
  have HT3:Hid (Tal T Q1 w3):=HT2.out.below hb3
  have hB3:Below w0.heap.size w0 w3:=hw.trans (hK3.below hT0 (Nat.le_of_lt hTw))
  have hz3:wr.heap.size<w3.heap.size:=Nat.lt_of_lt_of_le hz2 hb3.size
  clear cC e0 e1 e2 hb3 HT2 hB2
  by_cases hE2:E2=0
  case neg=>
   have hE2'':(E2 != 0)=true:=by simp [hE2]
   have hR:Hid (R=(E2,Q1)):=hr3.out.trans (andT_ne hE2)
   go_wp2
   go_ret
   rw [hR.out]
   exact ⟨rfl,hK3,HT3.out,HO1.out⟩
  subst hE2
  have hr4:Hid (R=_):=hr3.out.trans andT_eq
  clear hr3
  have hct:=cF.out w3 Q1 hB3 HT3.out HO1.out (by omega) (by omega)
  obtain ⟨⟨E3,Q3⟩,eq0⟩:∃ z,GF Q1=z:=⟨_,rfl⟩
  rw [eq0] at hct
  have hs0:Hid (R=andT (E3,Q3) fun s1=>andT (GR s1) fun s1=>rruns dep s1 (xs.drop (i+1))):=by have h:=hr4.out;rw [eq0] at h;exact h
  have CT:Hid (Calls Tryz.prog 77 #[.pointer (some ⟨T,0,none⟩),.int .i64 (dep+1),.slice pt nt ct] w3 fun r w'=>r=.returned (.int .i64 E3)∧KeepT T w3 w'∧Tal T Q3 w'∧OkS Q3):=hct
  clear hct cF eq0 hr4
  go_wp2_with fail
  refine CT.out.mono ?_
  rintro r w4 ⟨rfl,hk4,ht4,ho4⟩
  have hK4:KeepT T w w4:=hK3.trans hk4
  have HT4:Hid (Tal T Q3 w4):=ht4
  have HO4:Hid (OkS Q3):=ho4
  have hB4:Below w0.heap.size w0 w4:=hw.trans (hK4.below hT0 (Nat.le_of_lt hTw))
  have hz4:wr.heap.size<w4.heap.size:=Nat.lt_of_lt_of_le hz3 hk4.size
  have ga2:=(hk4.cell (p:=⟨wr.heap.size,2,none⟩) hz3 hTne).trans g2
  clear CT hk4 ht4 ho4 g1 g2
  by_cases hE3:E3=0
  case neg=>
   have hE':(E3 != 0)=true:=by simp [hE3]
   have hR:Hid (R=(E3,Q3)):=hs0.out.trans (andT_ne hE3)
   go_wp2
   go_ret
   rw [hR.out]
   exact ⟨rfl,hK4,HT4.out,HO4.out⟩
  subst hE3
  have hr5:Hid (R=_):=hs0.out.trans andT_eq
  clear hs0
  have hct:=cR.out w4 Q3 hB4 HT4.out HO4.out (by omega) (by omega)
  obtain ⟨⟨E4,Q4⟩,eq1⟩:∃ z,GR Q3=z:=⟨_,rfl⟩
  rw [eq1] at hct
  have hs1:Hid (R=andT (E4,Q4) fun s1=>rruns dep s1 (xs.drop (i+1))):=by have h:=hr5.out;rw [eq1] at h;exact h
  have CT:Hid (Calls Tryz.prog 104 #[.pointer (some ⟨T,0,none⟩),.int .i64 (dep+1),.slice ps ns cs] w4 fun r w'=>r=.returned (.int .i64 E4)∧KeepT T w4 w'∧Tal T Q4 w'∧OkS Q4):=hct
  clear hct cR eq1 hr5
  go_wp2_with fail
  refine CT.out.mono ?_
  rintro r w5 ⟨rfl,hk5,ht5,ho5⟩
  have hK5:KeepT T w w5:=hK4.trans hk5
  have HT5:Hid (Tal T Q4 w5):=ht5
  have HO5:Hid (OkS Q4):=ho5
  have hB5:Below w0.heap.size w0 w5:=hw.trans (hK5.below hT0 (Nat.le_of_lt hTw))
  have hz5:wr.heap.size<w5.heap.size:=Nat.lt_of_lt_of_le hz4 hk5.size
  clear CT hk5 ht5 ho5 ga2
  by_cases hE4:E4=0
  case neg=>
   have hE':(E4 != 0)=true:=by simp [hE4]
   have hR:Hid (R=(E4,Q4)):=hs1.out.trans (andT_ne hE4)
   go_wp2
   go_ret
   rw [hR.out]
   exact ⟨rfl,hK5,HT5.out,HO5.out⟩
  subst hE4
  have hr6:Hid (R=_):=hs1.out.trans andT_eq
  clear hs1
  go_wp2
  exact ⟨⟨i+1,Q4,by omega,by go_num,hr6,hK5,HT5,HO5⟩,by simp [intOf];omega⟩
theorem both_runs (w0:World) (T:Nat) (hT0:w0.heap.size≤T):∀ m:Nat,(∀ (fs:List Fm) (V:Value) (dep:Int),SizeOf.sizeOf fs≤m→FmsAt w0 V fs→Runs w0 T 77 dep V (fun s=>fruns dep s fs))∧(∀ (rs:List Rx) (V:Value) (dep:Int),SizeOf.sizeOf rs≤m→RxsAt w0 V rs→Runs w0 T 104 dep V (fun s=>rruns dep s rs)):=by
 intro m
 induction m with
 | zero=>
  refine ⟨fun fs V dep h=> ?_,fun rs V dep h=> ?_⟩
  ·cases fs<;>simp at h
  ·cases rs<;>simp at h
 | succ m ih=>exact ⟨fun fs V dep h hV=>forms_step w0 T hT0 m ih.1 ih.2 fs V dep h hV,fun rs V dep h hV=>regs_step w0 T hT0 m ih.1 ih.2 rs V dep h hV⟩
theorem forms_runs (w0:World) (T:Nat) (hT0:w0.heap.size≤T) (dep:Int) (V:Value) (fs:List Fm) (h:FmsAt w0 V fs):Runs w0 T 77 dep V (fun s=>fruns dep s fs):=(both_runs w0 T hT0 _).1 fs V dep (Nat.le_refl _) h
section
mutual
def nodT:Tm→Nat
 | .mk _ _ _ s=>1+nodTs s
def nodTs:List Tm→Nat
 | []=>0
 | t::l=>nodT t+nodTs l
end
end
section
mutual
def nodF:Fm→Nat
 | .mk _ _ _ _ ts _ _ _ ss rs=>1+nodTs ts+nodRs rs+nodFs ss
def nodFs:List Fm→Nat
 | []=>0
 | f::l=>nodF f+nodFs l
def nodR:Rx→Nat
 | .mk _ t s=>1+nodFs t+nodRs s
def nodRs:List Rx→Nat
 | []=>0
 | r::l=>nodR r+nodRs l
end
end
theorem nodT_eq (t:Tm):nodT t=1+nodTs t.subs:=by cases t;rw [nodT];rfl
theorem nodTs_nil:nodTs []=0:=by rw [nodTs]
theorem nodTs_cons (t:Tm) (l:List Tm):nodTs (t::l)=nodT t+nodTs l:=by rw [nodTs]
theorem nodF_eq (f:Fm):nodF f=1+nodTs f.terms+nodRs f.rgx+nodFs f.subs:=by cases f;rw [nodF];rfl
theorem nodFs_nil:nodFs []=0:=by rw [nodFs]
theorem nodFs_cons (f:Fm) (l:List Fm):nodFs (f::l)=nodF f+nodFs l:=by rw [nodFs]
theorem nodR_eq (r:Rx):nodR r=1+nodFs r.test+nodRs r.subs:=by cases r;rw [nodR];rfl
theorem nodRs_nil:nodRs []=0:=by rw [nodRs]
theorem nodRs_cons (r:Rx) (l:List Rx):nodRs (r::l)=nodR r+nodRs l:=by rw [nodRs]
theorem nodFs_append (a b:List Fm):nodFs (a++b)=nodFs a+nodFs b:=by
 induction a with
 | nil=>rw [List.nil_append,nodFs_nil];omega
 | cons x l ih=>rw [List.cons_append,nodFs_cons,nodFs_cons,ih];omega
theorem nodFs_len (a:List Fm):a.length≤nodFs a:=by
 induction a with
 | nil=>simp
 | cons x l ih=>rw [nodFs_cons,nodF_eq,List.length_cons];omega
theorem nodFs_get (a:List Fm) (i:Nat) (h:i<a.length):nodF a[i]≤nodFs a:=by
 induction a generalizing i with
 | nil=>simp at h
 | cons x l ih=>
  rw [nodFs_cons]
  rcases i with _ | i
  ·simp
  ·have:=ih i (by simpa using h)
   rw [List.getElem_cons_succ]
   omega
section
mutual
def wfT:Tm→Prop
 | .mk k n v s=>tmE (.mk k n v s)=0∧wfTs s
def wfTs:List Tm→Prop
 | []=>True
 | t::l=>wfT t∧wfTs l
end
end
section
mutual
def wfF:Fm→Prop
 | .mk k nm op vars terms lo hi opn subs rgx=>fmE (.mk k nm op vars terms lo hi opn subs rgx)=0∧wfTs terms∧wfRs rgx∧wfFs subs
def wfFs:List Fm→Prop
 | []=>True
 | f::l=>wfF f∧wfFs l
def wfR:Rx→Prop
 | .mk k t s=>rxE (.mk k t s)=0∧wfFs t∧wfRs s
def wfRs:List Rx→Prop
 | []=>True
 | r::l=>wfR r∧wfRs l
end
end
theorem wfT_eq (t:Tm):wfT t=(tmE t=0∧wfTs t.subs):=by cases t;rw [wfT];rfl
theorem wfTs_nil:wfTs []=True:=by rw [wfTs]
theorem wfTs_cons (t:Tm) (l:List Tm):wfTs (t::l)=(wfT t∧wfTs l):=by rw [wfTs]
theorem wfF_eq (f:Fm):wfF f=(fmE f=0∧wfTs f.terms∧wfRs f.rgx∧wfFs f.subs):=by cases f;rw [wfF];rfl
theorem wfFs_nil:wfFs []=True:=by rw [wfFs]
theorem wfFs_cons (f:Fm) (l:List Fm):wfFs (f::l)=(wfF f∧wfFs l):=by rw [wfFs]
theorem wfR_eq (r:Rx):wfR r=(rxE r=0∧wfFs r.test∧wfRs r.subs):=by cases r;rw [wfR];rfl
theorem wfRs_nil:wfRs []=True:=by rw [wfRs]
theorem wfRs_cons (r:Rx) (l:List Rx):wfRs (r::l)=(wfR r∧wfRs l):=by rw [wfRs]
theorem wfFs_append (a b:List Fm):wfFs (a++b)=(wfFs a∧wfFs b):=by
 induction a with
 | nil=>rw [List.nil_append,wfFs_nil,true_and]
 | cons x l ih=>rw [List.cons_append,wfFs_cons,wfFs_cons,ih,and_assoc]
theorem wfFs_get (a:List Fm) (i:Nat) (h:i<a.length) (k:wfFs a):wfF a[i]:=by
 induction a generalizing i with
 | nil=>simp at h
 | cons x l ih=>
  rw [wfFs_cons] at k
  rcases i with _ | i
  ·exact k.1
  ·exact ih i (by simpa using h) k.2
theorem truns_good:∀ (m:Nat) (ts:List Tm) (dep:Int) (s q:Int×Int),SizeOf.sizeOf ts≤m→truns dep s ts=(0,q)→wfTs ts∧q.1=s.1+nodTs ts:=by
 intro m
 induction m with
 | zero=>intro ts dep s q hm;cases ts<;>simp at hm
 | succ m ih=>
  intro ts dep s q hm h
  cases ts with
  | nil=>rw [truns_nil] at h;injection h with _ h;subst h;rw [wfTs_nil,nodTs_nil];simp
  | cons t l=>
   rw [truns_cons] at h
   rw [wfTs_cons,nodTs_cons,wfT_eq,nodT_eq]
   have s1:SizeOf.sizeOf l≤m:=by simp at hm;omega
   have s2:SizeOf.sizeOf t.subs≤m:=by have:=Tm.subs_lt t;simp at hm;omega
   by_cases h1:(trun dep s t).1=0
   ·rw [if_pos h1] at h
    rw [trun_eq] at h h1
    by_cases h2:meetE dep s=0
    ·rw [if_pos h2] at h h1
     have e2:(meetS dep s).1=s.1+1:=by unfold meetS;rw [if_pos h2]
     by_cases h3:tmE t=0
     ·rw [if_pos h3] at h h1
      have a:=ih t.subs (dep+1) (meetS dep s) (truns (dep+1) (meetS dep s) t.subs).2 s2 (by rw [← h1])
      have b:=ih l dep _ q s1 h
      exact ⟨⟨⟨h3,a.1⟩,b.1⟩,by rw [b.2,a.2,e2];omega⟩
     ·rw [if_neg h3] at h1
      exact absurd h1 h3
    ·rw [if_neg h2] at h1
     exact absurd h1 h2
   ·rw [if_neg h1] at h
    rw [h] at h1
    exact absurd rfl h1
theorem andT_zero {x:Int×(Int×Int)} {K:Int×Int→Int×(Int×Int)} {q:Int×Int} (h:andT x K=(0,q)):x.1=0∧K x.2=(0,q):=by
 unfold andT at h
 by_cases h1:x.1=0
 ·rw [if_pos h1] at h;exact ⟨h1,h⟩
 ·rw [if_neg h1] at h;rw [h] at h1;exact absurd rfl h1
theorem pair0 {x:Int×(Int×Int)} (h:x.1=0):x=(0,x.2):=by rw [← h]
theorem both_good:∀ m:Nat,(∀ (fs:List Fm) (dep:Int) (s q:Int×Int),SizeOf.sizeOf fs≤m→fruns dep s fs=(0,q)→wfFs fs∧q.1=s.1+nodFs fs)∧(∀ (rs:List Rx) (dep:Int) (s q:Int×Int),SizeOf.sizeOf rs≤m→rruns dep s rs=(0,q)→wfRs rs∧q.1=s.1+nodRs rs):=by
 intro m
 induction m with
 | zero=>exact ⟨fun fs dep s q hm=>by cases fs<;>simp at hm,fun rs dep s q hm=>by cases rs<;>simp at hm⟩
 | succ m ih=>
  constructor
  ·intro fs dep s q hm h
   cases fs with
   | nil=>rw [fruns_nil] at h;injection h with _ h;subst h;rw [wfFs_nil,nodFs_nil];simp
   | cons f l=>
    rw [fruns_cons] at h
    rw [wfFs_cons,nodFs_cons,wfF_eq,nodF_eq]
    obtain ⟨h1,h2⟩:=andT_zero h
    have s1:SizeOf.sizeOf l≤m:=by simp at hm;omega
    have s2:SizeOf.sizeOf f.subs≤m:=by have:=Fm.subs_lt f;simp at hm;omega
    have s3:SizeOf.sizeOf f.rgx≤m:=by have:=Fm.rgx_lt f;simp at hm;omega
    have b:=ih.1 l dep _ q s1 h2
    have h3:=pair0 h1
    generalize (frun dep s f).2=q2 at*
    rw [frun_eq] at h3
    obtain ⟨c1,h3⟩:=andT_zero h3
    obtain ⟨c2,h3⟩:=andT_zero h3
    obtain ⟨c3,h3⟩:=andT_zero h3
    obtain ⟨c4,h3⟩:=andT_zero h3
    have d1:=truns_good _ f.terms _ _ _ (Nat.le_refl _) (pair0 c3)
    have d2:=ih.2 f.rgx _ _ _ s3 (pair0 c4)
    have d3:=ih.1 f.subs _ _ _ s2 h3
    have e2:(meetS dep s).1=s.1+1:=by unfold meetS;rw [if_pos c1]
    refine ⟨⟨⟨c2,d1.1,d2.1,d3.1⟩,b.1⟩, ?_⟩
    rw [b.2,d3.2,d2.2,d1.2]
    show (meetS dep s).1+_+_+_+_=_
    rw [e2]
    omega
  ·intro rs dep s q hm h
   cases rs with
   | nil=>rw [rruns_nil] at h;injection h with _ h;subst h;rw [wfRs_nil,nodRs_nil];simp
   | cons r l=>
    rw [rruns_cons] at h
    rw [wfRs_cons,nodRs_cons,wfR_eq,nodR_eq]
    obtain ⟨h1,h2⟩:=andT_zero h
    have s1:SizeOf.sizeOf l≤m:=by simp at hm;omega
    have s2:SizeOf.sizeOf r.subs≤m:=by have:=Rx.subs_lt r;simp at hm;omega
    have s3:SizeOf.sizeOf r.test≤m:=by have:=Rx.test_lt r;simp at hm;omega
    have b:=ih.2 l dep _ q s1 h2
    have h3:=pair0 h1
    generalize (rrun dep s r).2=q2 at*
    rw [rrun_eq] at h3
    obtain ⟨c1,h3⟩:=andT_zero h3
    obtain ⟨c2,h3⟩:=andT_zero h3
    obtain ⟨c4,h3⟩:=andT_zero h3
    have d2:=ih.1 r.test _ _ _ s3 (pair0 c4)
    have d3:=ih.2 r.subs _ _ _ s2 h3
    have e2:(meetS dep s).1=s.1+1:=by unfold meetS;rw [if_pos c1]
    refine ⟨⟨⟨c2,d2.1,d3.1⟩,b.1⟩, ?_⟩
    rw [b.2,d3.2,d2.2]
    show (meetS dep s).1+_+_+_=_
    rw [e2]
    omega
theorem fruns_good {fs:List Fm} {dep:Int} {s q:Int×Int} (h:fruns dep s fs=(0,q)):wfFs fs∧q.1=s.1+nodFs fs:=(both_good _).1 fs dep s q (Nat.le_refl _) h
theorem getD_lt {α:Type} (l:List α) (i:Nat) (d:α) (h:i<l.length):l.getD i d=l[i]:=by rw [List.getD_eq_getElem?_getD,List.getElem?_eq_getElem h];rfl
def mx (l:List Nat):Nat:=l.foldl max 0
theorem mx_snoc (l:List Nat) (x:Nat):mx (l++[x])=max (mx l) x:=by unfold mx;rw [List.foldl_append];rfl
theorem mx_le {l:List Nat} {n:Nat} (h:∀ x∈l,x≤n):mx l≤n:=by
 unfold mx
 suffices H:∀ (l:List Nat) (a:Nat),a≤n→(∀ x∈l,x≤n)→l.foldl max a≤n from H l 0 (Nat.zero_le _) h
 intro l
 induction l with
 | nil=>intro a ha _;exact ha
 | cons x l ih=>intro a ha h;exact ih (max a x) (Nat.max_le.2 ⟨ha,h x (by simp)⟩) (fun y hy=>h y (by simp [hy]))
def freO (f:Fm) (ws:List (List ByteArray)):List ByteArray:=if f.k=10 then (ws.headD []).filter (fun s=> !Lib.containsS f.vars s) else if f.k=19 then uniN [[f.nm],f.vars.drop 1] else if f.k=20∨f.k=21 then ws.getD 1 [] else uniN [tvss f.terms,uniN ws]
section
mutual
def fre:Fm→List ByteArray×Nat
 | .mk k nm op vars terms lo hi opn subs rgx=>
  let ps:=if rgx.isEmpty then fres subs else frers rgx
  let x:=freO (.mk k nm op vars terms lo hi opn subs rgx) (ps.map Prod.fst)
  (x,max (mx (ps.map Prod.snd)) x.length)
def fres:List Fm→List (List ByteArray×Nat)
 | []=>[]
 | f::l=>fre f::fres l
def frer:Rx→List (List ByteArray×Nat)
 | .mk _ t s=>fres t++frers s
def frers:List Rx→List (List ByteArray×Nat)
 | []=>[]
 | r::l=>frer r++frers l
end
end
theorem fres_map (l:List Fm):fres l=l.map fre:=by
 induction l with
 | nil=>rw [fres];rfl
 | cons f l ih=>rw [fres,ih];rfl
theorem frers_map:∀ (m:Nat) (rs:List Rx),SizeOf.sizeOf rs≤m→frers rs=(rtss rs).map fre:=by
 intro m
 induction m with
 | zero=>intro rs hm;cases rs<;>simp at hm
 | succ m ih=>
  intro rs hm
  cases rs with
  | nil=>rw [frers,rtss_nil];rfl
  | cons r l=>
   have s1:SizeOf.sizeOf l≤m:=by simp at hm;omega
   have s2:SizeOf.sizeOf r.subs≤m:=by have:=Rx.subs_lt r;simp at hm;omega
   rw [frers,rtss_cons,rts_eq,List.map_append,List.map_append,ih l s1,← ih r.subs s2]
   cases r
   rw [frer,fres_map]
   rfl
theorem fre_eq (f:Fm):fre f=(freO f ((ptsF f).map fun g=>(fre g).1),max (mx ((ptsF f).map fun g=>(fre g).2)) (freO f ((ptsF f).map fun g=>(fre g).1)).length):=by
 have e:(if f.rgx.isEmpty then fres f.subs else frers f.rgx)=(ptsF f).map fre:=by
  unfold ptsF
  by_cases h:f.rgx=[]
  ·rw [if_pos h,if_pos (by rw [h];rfl),fres_map]
  ·rw [if_neg h,if_neg (by intro h2;exact h (List.isEmpty_iff.1 h2)),frers_map _ _ (Nat.le_refl _)]
 have e2:fre f=(freO f ((if f.rgx.isEmpty then fres f.subs else frers f.rgx).map Prod.fst),max (mx ((if f.rgx.isEmpty then fres f.subs else frers f.rgx).map Prod.snd)) (freO f ((if f.rgx.isEmpty then fres f.subs else frers f.rgx).map Prod.fst)).length):=by
  cases f
  rw [fre]
  rfl
 rw [e2,e,List.map_map,List.map_map]
 rfl
theorem rtss_nod:∀ (m:Nat) (rs:List Rx),SizeOf.sizeOf rs≤m→nodFs (rtss rs)≤nodRs rs∧(wfRs rs→wfFs (rtss rs)):=by
 intro m
 induction m with
 | zero=>intro rs hm;cases rs<;>simp at hm
 | succ m ih=>
  intro rs hm
  cases rs with
  | nil=>rw [rtss_nil,nodFs_nil,wfFs_nil];simp
  | cons r l=>
   have s1:SizeOf.sizeOf l≤m:=by simp at hm;omega
   have s2:SizeOf.sizeOf r.subs≤m:=by have:=Rx.subs_lt r;simp at hm;omega
   have a:=ih l s1
   have b:=ih r.subs s2
   rw [rtss_cons,rts_eq,nodFs_append,nodFs_append,wfFs_append,wfFs_append,nodRs_cons,nodR_eq,wfRs_cons,wfR_eq]
   exact ⟨by omega,fun h=>⟨⟨h.1.2.1,b.2 h.1.2.2⟩,a.2 h.2⟩⟩
theorem pts_nod (f:Fm):nodFs (ptsF f)<nodF f:=by
 rw [nodF_eq]
 unfold ptsF
 by_cases h:f.rgx=[]
 ·rw [if_pos h];omega
 ·rw [if_neg h];have:=(rtss_nod _ f.rgx (Nat.le_refl _)).1;omega
theorem pts_ok {f:Fm} (h:wfF f):wfFs (ptsF f):=by
 rw [wfF_eq] at h
 unfold ptsF
 by_cases h1:f.rgx=[]
 ·rw [if_pos h1];exact h.2.2.2
 ·rw [if_neg h1];exact (rtss_nod _ f.rgx (Nat.le_refl _)).2 h.2.2.1
theorem tvss_nod:∀ (m:Nat) (ts:List Tm),SizeOf.sizeOf ts≤m→(tvss ts).length≤nodTs ts:=by
 intro m
 induction m with
 | zero=>intro ts hm;cases ts<;>simp at hm
 | succ m ih=>
  intro ts hm
  cases ts with
  | nil=>rw [tvss_nil];simp
  | cons t l=>
   have s1:SizeOf.sizeOf l≤m:=by simp at hm;omega
   have s2:SizeOf.sizeOf t.subs≤m:=by have:=Tm.subs_lt t;simp at hm;omega
   have a:=ih l s1
   have b:=ih t.subs s2
   rw [tvss_cons,tvs_eq,nodTs_cons,nodT_eq,List.length_append,List.length_append]
   have c:(if t.k=1 then [t.nm] else ([]:List ByteArray)).length≤1:=by split<;>simp
   omega
theorem fm_forms {f:Fm} (h:fmE f=0):(1≤f.k∧f.k≤22)∧((frm f.k).vl≤(f.vars.length:Int)∧(f.vars.length:Int)≤(frm f.k).vm)∧((frm f.k).tl≤(f.terms.length:Int)∧(f.terms.length:Int)≤(frm f.k).tm)∧((frm f.k).sl≤(f.subs.length:Int)∧(f.subs.length:Int)≤(frm f.k).sm)∧((frm f.k).rl≤(f.rgx.length:Int)∧(f.rgx.length:Int)≤(frm f.k).rm):=by
 unfold fmE at h
 by_cases h1:f.k<1∨22<f.k
 ·rw [if_pos h1] at h;simp at h
 rw [if_neg h1] at h
 by_cases h2:manyB f.k f.vars.length f.terms.length=true
 ·rw [if_pos h2] at h;simp at h
 rw [if_neg h2] at h
 by_cases h3:formedM (frm f.k) f.op f.lo f.hi f.nm f.opn f.vars f.terms.length f.subs.length f.rgx.length=false
 ·rw [if_pos h3] at h;simp at h
 have h4:formedM (frm f.k) f.op f.lo f.hi f.nm f.opn f.vars f.terms.length f.subs.length f.rgx.length=true:=by
  cases h5:formedM (frm f.k) f.op f.lo f.hi f.nm f.opn f.vars f.terms.length f.subs.length f.rgx.length with
  | false=>exact absurd h5 h3
  | true=>rfl
 unfold formedM at h4
 simp only [Bool.and_eq_true,decide_eq_true_eq] at h4
 exact ⟨by omega,h4.1,h4.2.1,h4.2.2.1,h4.2.2.2.1⟩
theorem fm_vars {f:Fm} (h:fmE f=0):f.vars.length≤8:=by
 obtain ⟨hk,hv, -⟩:=fm_forms h
 have H:(frm f.k).vm≤8:=by
  obtain ⟨h1,h2⟩:=hk
  generalize f.k=k at*
  have:k=1∨k=2∨k=3∨k=4∨k=5∨k=6∨k=7∨k=8∨k=9∨k=10∨k=11∨k=12∨k=13∨k=14∨k=15∨k=16∨k=17∨k=18∨k=19∨k=20∨k=21∨k=22:=by omega
  rcases this with h | h | h | h | h | h | h | h | h | h | h | h | h | h | h | h | h | h | h | h | h | h<;>subst h<;>decide
 omega
theorem fm_10 {f:Fm} (h:fmE f=0) (hk:f.k=10):0<(ptsF f).length:=by
 obtain ⟨-, -, -,hs,hr⟩:=fm_forms h
 rw [hk] at hs hr
 have e1:(frm 10).sl=1:=by decide
 have e2:(frm 10).rm=0:=by decide
 have:f.rgx=[]:=List.length_eq_zero_iff.1 (by omega)
 unfold ptsF
 rw [if_pos this]
 omega
theorem fm_19 {f:Fm} (h:fmE f=0) (hk:f.k=19):1≤f.vars.length:=by
 obtain ⟨-,hv, -⟩:=fm_forms h
 rw [hk] at hv
 have e1:(frm 19).vl=1:=by decide
 omega
theorem fm_20 {f:Fm} (h:fmE f=0) (hk:f.k=20∨f.k=21):1<(ptsF f).length:=by
 obtain ⟨-, -, -,hs,hr⟩:=fm_forms h
 have e1:(frm f.k).sl=2:=by rcases hk with hk | hk<;>rw [hk]<;>decide
 have e2:(frm f.k).rm=0:=by rcases hk with hk | hk<;>rw [hk]<;>decide
 have:f.rgx=[]:=List.length_eq_zero_iff.1 (by omega)
 unfold ptsF
 rw [if_pos this]
 omega
theorem sum_len {l:List Fm} {g:Fm→List ByteArray} (h:∀ f∈l,(g f).length≤9*nodF f):((l.map g).flatten).length≤9*nodFs l:=by
 induction l with
 | nil=>simp
 | cons f l ih=>
  rw [List.map_cons,List.flatten_cons,List.length_append,nodFs_cons]
  have:=ih (fun x hx=>h x (by simp [hx]))
  have:=h f (by simp)
  omega
theorem fre_len:∀ (m:Nat) (f:Fm),nodF f≤m→wfF f→(fre f).1.length≤9*nodF f:=by
 intro m
 induction m with
 | zero=>intro f hm;rw [nodF_eq] at hm;omega
 | succ m ih=>
  intro f hm hok
  have hp:=pts_nod f
  have hpo:=pts_ok hok
  have hE:fmE f=0:=by rw [wfF_eq] at hok;exact hok.1
  have hv:=fm_vars hE
  have IH:∀ g∈ptsF f,(fre g).1.length≤9*nodF g:=by
   intro g hg
   obtain ⟨i,hi,rfl⟩:=List.getElem_of_mem hg
   have:=nodFs_get (ptsF f) i hi
   exact ih _ (by omega) (wfFs_get _ i hi hpo)
  have hs:=sum_len IH
  have ht:=tvss_nod _ f.terms (Nat.le_refl _)
  have hn:1+nodTs f.terms+nodFs (ptsF f)≤nodF f:=by
   rw [nodF_eq]
   unfold ptsF
   by_cases h:f.rgx=[]
   ·rw [if_pos h];omega
   ·rw [if_neg h];have:=(rtss_nod _ f.rgx (Nat.le_refl _)).1;omega
  rw [fre_eq]
  show (freO f ((ptsF f).map fun g=>(fre g).1)).length≤_
  unfold freO
  by_cases h10:f.k=10
  ·rw [if_pos h10]
   have h0:=fm_10 hE h10
   refine Nat.le_trans (List.length_filter_le _ _) ?_
   cases hP:ptsF f with
   | nil=>simp
   | cons g l=>
    rw [hP,nodFs_cons] at hp
    have:=IH g (by rw [hP];simp)
    show (fre g).1.length≤_
    omega
  rw [if_neg h10]
  by_cases h19:f.k=19
  ·rw [if_pos h19]
   have h:=uniN_len [[f.nm],f.vars.drop 1]
   rw [List.flatten_cons,List.flatten_cons,List.flatten_nil,List.append_nil,List.length_append,List.length_drop,List.length_singleton] at h
   omega
  rw [if_neg h19]
  by_cases h20:f.k=20∨f.k=21
  ·rw [if_pos h20]
   have h0:=fm_20 hE h20
   rw [getD_lt _ _ _ (by rw [List.length_map];exact h0),List.getElem_map]
   have:=IH _ (List.getElem_mem h0)
   have:=nodFs_get (ptsF f) 1 h0
   omega
  rw [if_neg h20]
  have h1:=uniN_len [tvss f.terms,uniN ((ptsF f).map fun g=>(fre g).1)]
  have h2:=uniN_len ((ptsF f).map fun g=>(fre g).1)
  rw [List.flatten_cons,List.flatten_cons,List.flatten_nil,List.append_nil,List.length_append] at h1
  omega
theorem fre_most:∀ (m:Nat) (f:Fm),nodF f≤m→wfF f→(fre f).2≤9*nodF f:=by
 intro m
 induction m with
 | zero=>intro f hm;rw [nodF_eq] at hm;omega
 | succ m ih=>
  intro f hm hok
  have hp:=pts_nod f
  have hpo:=pts_ok hok
  have h1:=fre_len _ f (Nat.le_refl _) hok
  rw [fre_eq] at h1 ⊢
  refine Nat.max_le.2 ⟨mx_le fun x hx=> ?_,h1⟩
  obtain ⟨g,hg,rfl⟩:=List.mem_map.1 hx
  obtain ⟨i,hi,rfl⟩:=List.getElem_of_mem hg
  have h2:=nodFs_get (ptsF f) i hi
  have h3:=ih _ (by omega) (wfFs_get _ i hi hpo)
  omega
theorem freM_le {l:List Fm} {n:Nat} (h:wfFs l) (hn:nodFs l≤n):mx (l.map fun g=>(fre g).2)≤9*n:=mx_le fun x hx=>by
 obtain ⟨g,hg,rfl⟩:=List.mem_map.1 hx
 obtain ⟨i,hi,rfl⟩:=List.getElem_of_mem hg
 have h2:=nodFs_get l i hi
 have h3:=fre_most _ _ (Nat.le_refl _) (wfFs_get _ i hi h)
 omega
theorem flat_get (rs:List (List ByteArray)) (i:Nat) (h:i<rs.length):rs[i].length≤rs.flatten.length:=by
 induction rs generalizing i with
 | nil=>simp at h
 | cons x l ih=>
  rw [List.flatten_cons,List.length_append]
  rcases i with _ | i
  ·simp
  ·have:=ih i (by simpa using h)
   rw [List.getElem_cons_succ]
   omega
theorem freeof_any (w0:World) (f:Fm) (q:FQ) (hq:QAt w0 (f,q)) (A:Value) (us:List Value) (rs:List (List ByteArray)) (w:World) (hw:Below w0.heap.size w0 w) (hA:LstsAt w A us rs) (hE:fmE f=0) (hp:rs.length=(ptsF f).length) (l1:(tvss f.terms).length≤100000000) (l2:rs.flatten.length≤100000000) (l3:us.length≤1000000000) (B:Nat) (hBw:B≤w.heap.size) (hO:∀ i (hi:i<us.length) (hy:i<rs.length),OwnN B us[i] rs[i] w):
  Calls Tryz.prog 106 #[.agg #[.int .i64 f.k,.string f.nm,.int .i64 f.op,q.v,q.t,.int .i64 f.lo,.int .i64 f.hi,.bool f.opn,q.s,q.r],A] w fun e w'=>∃ v,e=.returned v∧OwnN B v (freO f rs) w'∧Below w.heap.size w w':=by
 have hl:=hA.1
 unfold freO
 by_cases h10:f.k=10
 ·have h0:=fm_10 hE h10
  have hy:0<rs.length:=by omega
  rw [if_pos h10]
  have h:=freeEx_any f q w (hq.1.below hw) A us rs hA h10 (by omega) hy l3 (by have:=flat_get rs 0 hy;omega)
  rw [show rs.headD []=rs[0] by cases rs with | nil=>simp at hy | cons x l=>rfl]
  exact h.mono fun e w' ⟨v,h1,h2,h3⟩=>⟨v,h1,own_monoB h2 hBw,h3⟩
 rw [if_neg h10]
 by_cases h19:f.k=19
 ·have h0:=fm_19 hE h19
  have h1:=fm_vars hE
  rw [if_pos h19]
  exact (freeAgg_any f q w (hq.1.below hw) A h19 h0 (by omega)).mono fun e w' ⟨v,h1,h2,h3⟩=>⟨v,h1,own_monoB h2 hBw,h3⟩
 rw [if_neg h19]
 by_cases h20:f.k=20∨f.k=21
 ·have h0:=fm_20 hE h20
  have hy:1<rs.length:=by omega
  rw [if_pos h20]
  have h:=freeLet_any f q A us rs w hA h20 (by omega) hy l3 B (hO 1 (by omega) hy)
  rw [getD_lt _ _ _ hy]
  exact h
 rw [if_neg h20]
 exact (freeOther_any w0 f q hq A us rs w hw hA h10 h19 (fun h=>h20 (Or.inl h)) (fun h=>h20 (Or.inr h)) l1 l2 l3).mono fun e w' ⟨v,h1,h2,h3⟩=>⟨v,h1,own_monoB h2 hBw,h3⟩
theorem inLs:(Tryz.prog.info? 22).map (fun i=>(i.zero,i.size,i.bytes))=some (some (.slice none 0 0),1,24):=by kernel_rfl
theorem own_keepP {w w':World} {B e size n:Nat} {v:Value} {xs:List Value} (h:w.ownsRow B e size v n xs) (hk:∀ q,v.ownBlock=some q→q<w.heap.size→w'.heap[q]? =w.heap[q]?):w'.ownsRow B e size v n xs:=by
 obtain ⟨hL,⟨e,hn0⟩ | ⟨g,cap,cur,rfl,hg1,hg2,hg3,hg4,hg5,hg6⟩⟩:=h
 ·exact ⟨hL,.inl ⟨e,hn0⟩⟩
 ·exact ⟨hL,.inr ⟨g,cap,cur,rfl,hg1,(hk g rfl (Array.getElem?_eq_some_iff.1 hg2).1).trans hg2,hg3,hg4,hg5,hg6⟩⟩
theorem set_block {w:World} {n o q:Nat} {u:Value} (h:q≠n):(w.setCell ⟨n,o,none⟩ u).heap[q]? =w.heap[q]?:=Below.heap_setCell _ _ _ _ h
def OwnL (B:Nat) (v:Value) (us:List Value) (w:World):Prop:=w.ownsRow B 22 1 v us.length us
theorem OwnL.bel {B:Nat} {v:Value} {L:List Value} {w w':World} (h:OwnL B v L w) (hb:Below w.heap.size w w'):OwnL B v L w':=own_belA h hb
theorem OwnL.nil (B:Nat) (w:World):OwnL B (.slice none 0 0) [] w:=⟨rfl,.inl ⟨rfl,rfl⟩⟩
theorem OwnL.lsts {B:Nat} {v:Value} {us:List Value} {w:World} {rs:List (List ByteArray)} (h:OwnL B v us w) (hl:us.length=rs.length) (hn:∀ k (hk:k<us.length) (ky:k<rs.length),NmsAt w us[k] rs[k]):LstsAt w v us rs:=by
 have h':w.ownsRow B 22 1 v us.length us:=h
 obtain ⟨hL,⟨e,hn0⟩ | ⟨g,cap,cur,rfl,hg1,hg2,hg3,hg4,hg5,hg6⟩⟩:=h
 ·exact ⟨hl,none,0,by rw [e,hn0],fun k hk=>by omega,hn⟩
 ·refine ⟨hl,_,_,rfl,fun k hk=>⟨g,0,rfl,(Array.getElem?_eq_some_iff.1 hg2).1, ?_⟩,hn⟩
  rw [Nat.zero_add,h'.cellAt _ (by omega)]
  simp [hk]
def OwnLN (B:Nat) (v:Value) (us:List Value) (rs:List (List ByteArray)) (w:World):Prop:=OwnL B v us w∧us.length=rs.length∧(∀ r∈rs,r.length≤9223372036854775807)∧∀ i (hi:i<us.length) (hy:i<rs.length),OwnN B us[i] rs[i] w
theorem OwnLN.lsts {B:Nat} {v:Value} {us:List Value} {w:World} {rs:List (List ByteArray)} (h:OwnLN B v us rs w):LstsAt w v us rs:=h.1.lsts h.2.1 (fun k hk ky=>(h.2.2.2 k hk ky).nms (h.2.2.1 _ (List.getElem_mem ky)))
theorem own_apart {w:World} {B B' e e' size size' n n':Nat} {v v':Value} {xs xs':List Value} (h:w.ownsRow B e size v n xs) (h':w.ownsRow B' e' size' v' n' xs') (he:e≠e') (q:Nat) (hq:v.ownBlock=some q):v'.ownBlock≠some q:=by
 intro hq'
 obtain ⟨-,⟨rfl, -⟩ | ⟨g,cap,cur,rfl, -,hg, -⟩⟩:=h
 ·simp [Value.ownBlock] at hq
 obtain ⟨-,⟨rfl, -⟩ | ⟨g',cap',cur',rfl, -,hg', -⟩⟩:=h'
 ·simp [Value.ownBlock] at hq'
 simp only [Value.ownBlock,Option.some.injEq] at hq hq'
 subst hq hq'
 rw [hg] at hg'
 injection hg' with hg'
 injection hg' with _ h2
 exact he h2
def EachOut (w:World) (fs:List Fm) (r:Ending) (w':World):Prop:=Below w.heap.size w w'∧∃ v us,r=.returned (.tuple #[v,.int .i64 ((mx (fs.map fun f=>(fre f).2):Nat):Int)])∧OwnLN w.heap.size v us (fs.map fun f=>(fre f).1) w'
theorem feach_any:∀ (m:Nat) (fs:List Fm) (V:Value) (w:World),nodFs fs<m→nodFs fs≤256→wfFs fs→FmsAt w V fs→Calls Tryz.prog 78 #[V] w (EachOut w fs):=by
 obtain ⟨i0,hi,hz0,hz1,hz2⟩:=info_parts inLs
 intro m
 induction m with
 | zero=>intro fs V w hm;omega
 | succ m ih=>
  intro fs V w hm h256 hok hV
  obtain ⟨p,c,rfl,hl,hc,HX0⟩:=hV.form
  have HX:Hid (∀ i (hi:i<fs.length),∃ b off uv ut us ur,p=some ⟨b,off,none⟩∧b<w.heap.size∧FmC w b (off+i*10) fs[i] uv ut us ur∧NmsAt w uv fs[i].vars∧TmsAt w ut fs[i].terms∧FmsAt w us fs[i].subs∧RxsAt w ur fs[i].rgx):=HX0
  have IH:Hid (∀ (fs:List Fm) (V:Value) (w:World),nodFs fs<m→nodFs fs≤256→wfFs fs→FmsAt w V fs→Calls Tryz.prog 78 #[V] w (EachOut w fs)):=ih
  have HM:Hid (nodFs fs<m+1):=hm
  have H256:Hid (nodFs fs≤256):=h256
  have HOK:Hid (wfFs fs):=hok
  have hln:fs.length≤256:=Nat.le_trans (nodFs_len fs) h256
  obtain ⟨EO,eEO⟩:∃ EO,Hid (EachOut w fs=EO):=⟨_,rfl⟩
  rw [eEO.out]
  clear hV HX0 ih hm h256 hok
  obtain ⟨n,en⟩:∃ n:Nat,Hid (fs.length=n):=⟨_,rfl⟩
  rw [en.out] at hl hc hln ⊢
  go_enter Tryz.func78,Tryz.ntmps78
  go_wp2
  go_loopw [2,3,11] (fun v2 v3 v wr=>∃ (k:Nat) (M:Nat) (L:List Value),k≤n∧v=.int .i64 k∧v3=.int .i64 (M:Int)∧M≤3000∧Hid (M=mx ((fs.take k).map fun f=>(fre f).2))∧L.length=k∧Below w.heap.size w wr∧Hid (OwnL w.heap.size v2 L wr)∧Hid (∀ i (hi:i<L.length) (ky:i<fs.length),OwnN w.heap.size L[i] (fre fs[i]).1 wr)) (fun _ _ v _=>n - (intOf v).toNat)
  case atStart=>exact ⟨0,0,[],Nat.zero_le _,rfl,rfl,by omega,(show _=_ by simp [mx]),rfl,Below.refl _ _,OwnL.nil _ _,fun i hi=>by simp at hi⟩
  case round=>
   obtain ⟨k,M,L,hk,rfl,rfl,hM3,hMx,hLk,hB,hO,hN⟩:=hrel
   have hsz:=hB.size
   have HK:Hid (∀ q,u2.ownBlock=some q→w.heap.size≤q∧q<wr.heap.size):=fun q hq=>World.ownsRow.lt hO.out q hq
   by_cases hlt:k<n
   case neg=>
    have c2:¬ (k:Int)<n:=by omega
    have hL:OwnLN w.heap.size u2 L (fs.map fun f=>(fre f).1) wr:=⟨hO.out,by rw [List.length_map,en.out];omega,fun r hr=>by
     obtain ⟨g,hg,rfl⟩:=List.mem_map.1 hr
     obtain ⟨i,hi,rfl⟩:=List.getElem_of_mem hg
     have h1:=fre_len _ fs[i] (Nat.le_refl _) (wfFs_get _ i hi HOK.out)
     have h2:=nodFs_get fs i hi
     have h3:=H256.out
     omega,fun i hi ky=>by rw [List.getElem_map];exact hN.out i hi (by simpa using ky)⟩
    have hM2:Hid (M=mx (fs.map fun f=>(fre f).2)):=by
     have h:=hMx.out
     rw [List.take_of_length_le (by have:=en.out;omega)] at h
     exact h
    have HL:Hid (OwnLN w.heap.size u2 L (fs.map fun f=>(fre f).1) wr):=hL
    have HEO:Hid (∀ r,r=.returned (.tuple #[u2,.int .i64 (M:Int)])→EO r wr):=fun r hr=>by
     rw [← eEO.out]
     exact ⟨hB,u2,L,by rw [hr,hM2.out],HL.out⟩
    clear hL
    go_wp2
    exact HEO.out _ rfl
   have hlt':(k:Int)<n:=by omega
   have kx:k<fs.length:=by have:=en.out;omega
   obtain ⟨b,off,uv,ut,us0,ur,rfl,hb,FC,FV,FT,FS,FR⟩:=HX.out k kx
   obtain ⟨a0,a1,a2,a3,a4,a5,a6,a7,a8,a9⟩:=FC.below hB hb
   have hbr:b<wr.heap.size:=Nat.lt_of_lt_of_le hb hsz
   have hq:Hid (QAt w (fs[k],⟨uv,ut,us0,ur⟩)):=⟨FV,FT,FS,FR⟩
   have hokk:wfF fs[k]:=wfFs_get fs k kx HOK.out
   have hnk:nodF fs[k]≤nodFs fs:=nodFs_get fs k kx
   have hpk:=pts_nod fs[k]
   have hpo:=pts_ok hokk
   have hfe:Hid (fre fs[k]=(freO fs[k] ((ptsF fs[k]).map fun g=>(fre g).1),max (mx ((ptsF fs[k]).map fun g=>(fre g).2)) (freO fs[k] ((ptsF fs[k]).map fun g=>(fre g).1)).length)):=fre_eq fs[k]
   have hM4:Hid (mx ((fs.take (k+1)).map fun f=>(fre f).2)=max M (fre fs[k]).2):=by
    have h:=hMx.out
    unfold Hid
    rw [List.take_succ_eq_append_getElem kx,List.map_append,List.map_cons,List.map_nil,mx_snoc,← h]
   have hE:fmE fs[k]=0:=by rw [wfF_eq] at hokk;exact hokk.1
   have ht0:=tvss_nod _ fs[k].terms (Nat.le_refl _)
   have hn9:=nodF_eq fs[k]
   have hr9:=(rtss_nod _ fs[k].rgx (Nat.le_refl _)).1
   have hr8:=nodFs_len (rtss fs[k].rgx)
   have h256:=H256.out
   have hmm:=HM.out
   have hsum:((ptsF fs[k]).map fun g=>(fre g).1).flatten.length≤9*nodFs (ptsF fs[k]):=sum_len (fun g hg=>by
    obtain ⟨i,hi,rfl⟩:=List.getElem_of_mem hg
    exact fre_len _ _ (Nat.le_refl _) (wfFs_get _ i hi hpo))
   have hfl:=fre_len _ fs[k] (Nat.le_refl _) hokk
   have hplen:=nodFs_len (ptsF fs[k])
   have cP:Hid (∀ W:World,Below w.heap.size w W→Calls Tryz.prog 105 #[.agg #[.int .i64 fs[k].k,.string fs[k].nm,.int .i64 fs[k].op,uv,ut,.int .i64 fs[k].lo,.int .i64 fs[k].hi,.bool fs[k].opn,us0,ur]] W fun e w'=>∃ v,e=.returned v∧FmsAt w' v (ptsF fs[k])∧Below W.heap.size W w'):=fun W hW=>parts_any w fs[k] ⟨uv,ut,us0,ur⟩ hq.out W hW (by omega)
   have cE:Hid (∀ (W:World) (V:Value),FmsAt W V (ptsF fs[k])→Calls Tryz.prog 78 #[V] W fun r w'=>Below W.heap.size W w'∧∃ v us,r=.returned (.tuple #[v,.int .i64 ((mx ((ptsF fs[k]).map fun g=>(fre g).2):Nat):Int)])∧OwnLN W.heap.size v us ((ptsF fs[k]).map fun g=>(fre g).1) w'):=fun W V h=>IH.out _ V W (by omega) (by omega) hpo h
   have cO:Hid (∀ (W:World) (A:Value) (us:List Value),Below w.heap.size w W→OwnLN w.heap.size A us ((ptsF fs[k]).map fun g=>(fre g).1) W→Calls Tryz.prog 106 #[.agg #[.int .i64 fs[k].k,.string fs[k].nm,.int .i64 fs[k].op,uv,ut,.int .i64 fs[k].lo,.int .i64 fs[k].hi,.bool fs[k].opn,us0,ur],A] W fun e w'=>∃ v,e=.returned v∧OwnN w.heap.size v (fre fs[k]).1 w'∧Below W.heap.size W w'):=fun W A us hW hA=>by
    rw [hfe.out]
    exact freeof_any w fs[k] ⟨uv,ut,us0,ur⟩ hq.out A us _ W hW hA.lsts hE (by rw [List.length_map]) (by omega) (by omega) (by rw [hA.2.1,List.length_map];omega) w.heap.size hW.size hA.2.2.2
   have hM5:Hid ((fre fs[k]).2=max (mx ((ptsF fs[k]).map fun g=>(fre g).2)) (fre fs[k]).1.length):=by unfold Hid;rw [hfe.out]
   have hfl2:(fre fs[k]).1.length≤2400:=by omega
   have hmx:mx ((ptsF fs[k]).map fun g=>(fre g).2)≤2400:=Nat.le_trans (freM_le hpo (Nat.le_refl _)) (by omega)
   have hNk:Hid (∀ (W:World) (u:Value),(∀ i (hi:i<L.length) (ky:i<fs.length),OwnN w.heap.size L[i] (fre fs[i]).1 W)→OwnN w.heap.size u (fre fs[k]).1 W→∀ i (hi:i<(L++[u]).length) (ky:i<fs.length),OwnN w.heap.size (L++[u])[i] (fre fs[i]).1 W):=fun W u hW hu i hi ky=>by
    by_cases hik:i<L.length
    ·rw [List.getElem_append_left hik]
     exact hW i hik ky
    ·have:i=k:=by simp at hi;omega
     subst this
     rw [List.getElem_append_right (by omega)]
     simpa using hu
   obtain ⟨-,pv,cv,rfl, -⟩:=FV
   obtain ⟨pt,ct,rfl, -⟩:=FT.form
   obtain ⟨ps,cs,rfl, -⟩:=FS.form
   obtain ⟨pr,cr,rfl, -⟩:=FR.form
   clear FC FT FS FR hq hMx hfe hokk hnk hpk hpo hE ht0 hn9 hr9 hr8 h256 hmm hsum hfl hplen
   generalize mx ((ptsF fs[k]).map fun g=>(fre g).2)=M2 at*
   generalize (fre fs[k]).1=R at*
   generalize (fre fs[k]).2=M3 at*
   generalize fs[k].k=tk at*
   generalize fs[k].nm=nm at*
   generalize fs[k].op=top at*
   generalize fs[k].lo=lo at*
   generalize fs[k].hi=ihi at*
   generalize fs[k].opn=o at*
   generalize fs[k].vars.length=nv at*
   generalize fs[k].terms.length=nt at*
   generalize fs[k].subs.length=ns at*
   generalize fs[k].rgx.length=nr at*
   go_wp2_with fail
   refine (cP.out _ (hB.alloc hsz _)).mono ?_
   rintro r w1 ⟨v1,rfl,hF1,hb1⟩
   obtain ⟨hB1,hn1⟩:=bgX (n:=wr.heap.size) (W0:=wr) (by go_grown) (by go_size) hb1
   have hz1':wr.heap.size<w1.heap.size:=by have:=hb1.size;simp at this;omega
   have e0:w1.cell? ⟨wr.heap.size,0,none⟩=some (.int .i64 tk):=(hb1.cell (p:=⟨wr.heap.size,0,none⟩) (by first | (simp;done) | omega)).trans (by simp [go_sem])
   have e1:w1.cell? ⟨wr.heap.size,1,none⟩=some (.string nm):=(hb1.cell (p:=⟨wr.heap.size,1,none⟩) (by first | (simp;done) | omega)).trans (by simp [go_sem])
   have e2:w1.cell? ⟨wr.heap.size,2,none⟩=some (.int .i64 top):=(hb1.cell (p:=⟨wr.heap.size,2,none⟩) (by first | (simp;done) | omega)).trans (by simp [go_sem])
   have e3:w1.cell? ⟨wr.heap.size,3,none⟩=some (.slice pv nv cv):=(hb1.cell (p:=⟨wr.heap.size,3,none⟩) (by first | (simp;done) | omega)).trans (by simp [go_sem])
   have e4:w1.cell? ⟨wr.heap.size,4,none⟩=some (.slice pt nt ct):=(hb1.cell (p:=⟨wr.heap.size,4,none⟩) (by first | (simp;done) | omega)).trans (by simp [go_sem])
   have e5:w1.cell? ⟨wr.heap.size,5,none⟩=some (.int .i64 lo):=(hb1.cell (p:=⟨wr.heap.size,5,none⟩) (by first | (simp;done) | omega)).trans (by simp [go_sem])
   have e6:w1.cell? ⟨wr.heap.size,6,none⟩=some (.int .i64 ihi):=(hb1.cell (p:=⟨wr.heap.size,6,none⟩) (by first | (simp;done) | omega)).trans (by simp [go_sem])
   have e7:w1.cell? ⟨wr.heap.size,7,none⟩=some (.bool o):=(hb1.cell (p:=⟨wr.heap.size,7,none⟩) (by first | (simp;done) | omega)).trans (by simp [go_sem])
   have e8:w1.cell? ⟨wr.heap.size,8,none⟩=some (.slice ps ns cs):=(hb1.cell (p:=⟨wr.heap.size,8,none⟩) (by first | (simp;done) | omega)).trans (by simp [go_sem])
   have e9:w1.cell? ⟨wr.heap.size,9,none⟩=some (.slice pr nr cr):=(hb1.cell (p:=⟨wr.heap.size,9,none⟩) (by first | (simp;done) | omega)).trans (by simp [go_sem])
   clear hb1 cP a0 a1 a2 a3 a4 a5 a6 a7 a8 a9
   go_wp2_with fail
   refine (cE.out _ _ hF1).mono ?_
   rintro r w2 ⟨hb2,v2,us2,rfl,hL2⟩
   have e0:w2.cell? ⟨wr.heap.size,0,none⟩=some (.int .i64 tk):=(hb2.cell (p:=⟨wr.heap.size,0,none⟩) (by first | (simp;done) | omega)).trans (e0)
   have e1:w2.cell? ⟨wr.heap.size,1,none⟩=some (.string nm):=(hb2.cell (p:=⟨wr.heap.size,1,none⟩) (by first | (simp;done) | omega)).trans (e1)
   have e2:w2.cell? ⟨wr.heap.size,2,none⟩=some (.int .i64 top):=(hb2.cell (p:=⟨wr.heap.size,2,none⟩) (by first | (simp;done) | omega)).trans (e2)
   have e3:w2.cell? ⟨wr.heap.size,3,none⟩=some (.slice pv nv cv):=(hb2.cell (p:=⟨wr.heap.size,3,none⟩) (by first | (simp;done) | omega)).trans (e3)
   have e4:w2.cell? ⟨wr.heap.size,4,none⟩=some (.slice pt nt ct):=(hb2.cell (p:=⟨wr.heap.size,4,none⟩) (by first | (simp;done) | omega)).trans (e4)
   have e5:w2.cell? ⟨wr.heap.size,5,none⟩=some (.int .i64 lo):=(hb2.cell (p:=⟨wr.heap.size,5,none⟩) (by first | (simp;done) | omega)).trans (e5)
   have e6:w2.cell? ⟨wr.heap.size,6,none⟩=some (.int .i64 ihi):=(hb2.cell (p:=⟨wr.heap.size,6,none⟩) (by first | (simp;done) | omega)).trans (e6)
   have e7:w2.cell? ⟨wr.heap.size,7,none⟩=some (.bool o):=(hb2.cell (p:=⟨wr.heap.size,7,none⟩) (by first | (simp;done) | omega)).trans (e7)
   have e8:w2.cell? ⟨wr.heap.size,8,none⟩=some (.slice ps ns cs):=(hb2.cell (p:=⟨wr.heap.size,8,none⟩) (by first | (simp;done) | omega)).trans (e8)
   have e9:w2.cell? ⟨wr.heap.size,9,none⟩=some (.slice pr nr cr):=(hb2.cell (p:=⟨wr.heap.size,9,none⟩) (by first | (simp;done) | omega)).trans (e9)
   have hB2:Below wr.heap.size wr w2:=hB1.trans (hb2.mono hn1)
   have hz2':wr.heap.size<w2.heap.size:=Nat.lt_of_lt_of_le hz1' hb2.size
   have HL2:Hid (OwnLN w.heap.size v2 us2 ((ptsF fs[k]).map fun g=>(fre g).1) w2):=⟨own_monoB hL2.1 (Nat.le_trans hsz hn1),hL2.2.1,hL2.2.2.1,fun i hi hy=>own_monoB (hL2.2.2.2 i hi hy) (Nat.le_trans hsz hn1)⟩
   clear hb2 cE hF1 hL2 hB1 hn1 hz1'
   go_wp2_with fail
   refine (cO.out _ _ us2 (hB.trans (hB2.mono hsz)) HL2.out).mono ?_
   rintro r w3 ⟨v3,rfl,hN3,hb3⟩
   have hB3:Below wr.heap.size wr w3:=hB2.trans (hb3.mono (Nat.le_of_lt hz2'))
   have hO3:Hid (OwnL w.heap.size u2 L w3):=hO.out.bel hB3
   have hNo:Hid (∀ i (hi:i<L.length) (ky:i<fs.length),OwnN w.heap.size L[i] (fre fs[i]).1 w3):=fun i hi ky=>(hN.out i hi ky).bel hB3
   have hN5:Hid (OwnN w.heap.size v3 R w3):=hN3
   obtain ⟨p3,c3,rfl, -⟩:=hN3.cap
   have hz3:w.heap.size≤w3.heap.size:=Nat.le_trans hsz hB3.size
   have hBw:Below w.heap.size w w3:=hB.trans (hB3.mono hsz)
   clear hb3 cO hN3 HL2 hO hN e0 e1 e2 e3 e4 e5 e6 e7 e8 e9
   go_wp2_with (at_builtin;refine wpList_append_own _ rfl _ _ 112 rfl w.heap.size 22 i0 (.slice none 0 0) 1 24 Tryz.underlying112 hi hz0 hz1 hz2 rfl (by decide) _ _ _ rfl (World.ownsRow.alloc hO3.out _) ⟨w3.heap.size,0,none⟩ 1 1 [.slice p3 R.length c3] rfl rfl ?cc1 ?cc2 ?cc3 ?cc4 ?cc5 ?_)
   case cc1=>(intro j u hj;rw [Addr.add_lit];(rcases j with _ | j)<;>simp at hj<;>subst hj<;>simp (maxDischargeDepth:=12) [go_sem])
   case cc2=>(intro u hu;simp at hu;subst hu;rfl)
   case cc3=>unfold maxLen;omega
   case cc4=>omega
   case cc5=>first | omega | (simp;omega)
   intro v' w4 h2 h3 _
   have O4:Hid (OwnL w.heap.size v' (L++[.slice p3 R.length c3]) w4):=by
    show w4.ownsRow _ _ _ _ _ _
    rw [List.length_append,hLk]
    exact h2
   have B4:Below w.heap.size w w4:=Below.grown (hBw.alloc hz3 _) h3 (by simp;omega) (fun q hq=>(HK.out q hq).1)
   have KP:Hid (∀ (v:Value) (vs:List ByteArray),OwnN w.heap.size v vs w3→OwnN w.heap.size v vs w4):=fun v vs hv=>by
    refine World.ownsRow.kept (World.ownsRow.alloc hv _) h3 ?_
    cases hq:v.ownBlock with
    | none=>exact Or.inl rfl
    | some q=>exact Or.inr (fun h=>own_apart hv hO3.out (by decide) q hq h.symm)
   have B34:Hid (∀ i (hi:i<(L++[Value.slice p3 R.length c3]).length) (ky:i<fs.length),OwnN w.heap.size (L++[Value.slice p3 R.length c3])[i] (fre fs[i]).1 w4):=hNk.out w4 _ (fun i hi ky=>KP.out _ _ (hNo.out i hi ky)) (KP.out _ _ hN5.out)
   have hMM:Hid (mx ((fs.take (k+1)).map fun f=>(fre f).2)=max M (max M2 R.length)):=by unfold Hid;rw [hM4.out,hM5.out]
   clear h2 h3 HK hO3 KP hNo hN5 hNk hM4 hM5
   generalize R.length=lR at*
   go_wp2
   exact ⟨⟨k+1,max M (max M2 lR),L++[Value.slice p3 lR c3],by omega,by go_num,by congr 1;(repeat' split)<;>omega,by omega,hMM.out.symm,by simp;omega,B4,O4,B34⟩,by simp [intOf];omega⟩
theorem FmC.keepT {T:Nat} {w w':World} {b o:Nat} {f:Fm} {uv ut us ur:Value} (h:FmC w b o f uv ut us ur) (hb:KeepT T w w') (hB:b<w.heap.size) (hT:b≠T):FmC w' b o f uv ut us ur:=by
 obtain ⟨h0,h1,h2,h3,h4,h5,h6,h7,h8,h9⟩:=h
 exact ⟨(hb.cell (p:=⟨b,_,none⟩) hB hT).trans h0,(hb.cell (p:=⟨b,_,none⟩) hB hT).trans h1,(hb.cell (p:=⟨b,_,none⟩) hB hT).trans h2,(hb.cell (p:=⟨b,_,none⟩) hB hT).trans h3,(hb.cell (p:=⟨b,_,none⟩) hB hT).trans h4,(hb.cell (p:=⟨b,_,none⟩) hB hT).trans h5,(hb.cell (p:=⟨b,_,none⟩) hB hT).trans h6,(hb.cell (p:=⟨b,_,none⟩) hB hT).trans h7,(hb.cell (p:=⟨b,_,none⟩) hB hT).trans h8,(hb.cell (p:=⟨b,_,none⟩) hB hT).trans h9⟩
def TopAt (w0 w:World) (T:Nat) (V:Value) (xs:List Fm):Prop:=∃ p c,V=.slice p xs.length c∧xs.length≤9223372036854775807∧xs.length≤c∧∀ i (hi:i<xs.length),∃ b off uv ut us ur,p=some ⟨b,off,none⟩∧(b<w.heap.size∧b≠T)∧FmC w b (off+i*10) xs[i] uv ut us ur∧NmsAt w0 uv xs[i].vars∧TmsAt w0 ut xs[i].terms∧FmsAt w0 us xs[i].subs∧RxsAt w0 ur xs[i].rgx
theorem forms_top (w0:World) (T:Nat) (hT0:w0.heap.size≤T) (xs:List Fm) (V:Value) (dep:Int) (w:World) (s:Int×Int) (hw:Below w0.heap.size w0 w) (hT:Tal T s w) (hs:OkS s) (hd0:0≤dep) (hd1:dep≤25) (hV:TopAt w0 w T V xs):
  Calls Tryz.prog 77 #[.pointer (some ⟨T,0,none⟩),.int .i64 dep,V] w fun r w'=>r=.returned (.int .i64 (fruns dep s xs).1)∧KeepT T w w'∧Tal T (fruns dep s xs).2 w'∧OkS (fruns dep s xs).2:=by
 obtain ⟨m,hm⟩:∃ m,SizeOf.sizeOf xs≤m+1:=⟨SizeOf.sizeOf xs,by omega⟩
 have IF:∀ (fs:List Fm) (V:Value) (dep:Int),SizeOf.sizeOf fs≤m→FmsAt w0 V fs→Runs w0 T 77 dep V (fun s=>fruns dep s fs):=fun fs V dep _ h=>forms_runs w0 T hT0 dep V fs h
 have IR:∀ (rs:List Rx) (V:Value) (dep:Int),SizeOf.sizeOf rs≤m→RxsAt w0 V rs→Runs w0 T 104 dep V (fun s=>rruns dep s rs):=fun rs V dep _ h=>(both_runs w0 T hT0 _).2 rs V dep (Nat.le_refl _) h
 obtain ⟨p,c,rfl,hl,hc,HX0⟩:=hV
 have HX:Hid (∀ i (hi:i<xs.length),∃ b off uv ut us ur,p=some ⟨b,off,none⟩∧(b<w.heap.size∧b≠T)∧FmC w b (off+i*10) xs[i] uv ut us ur∧NmsAt w0 uv xs[i].vars∧TmsAt w0 ut xs[i].terms∧FmsAt w0 us xs[i].subs∧RxsAt w0 ur xs[i].rgx):=HX0
 have HIF:Hid (∀ (fs:List Fm) (V:Value) (dep:Int),SizeOf.sizeOf fs≤m→FmsAt w0 V fs→Runs w0 T 77 dep V (fun s=>fruns dep s fs)):=IF
 have HIR:Hid (∀ (rs:List Rx) (V:Value) (dep:Int),SizeOf.sizeOf rs≤m→RxsAt w0 V rs→Runs w0 T 104 dep V (fun s=>rruns dep s rs)):=IR
 have HT:Hid (Tal T s w):=hT
 have HS:Hid (OkS s):=hs
 have hTw:T<w.heap.size:=hT.lt
 have HM:Hid (SizeOf.sizeOf xs≤m+1):=hm
 clear HX0 IF IR hT hs hm
 show Calls Tryz.prog _ _ _ fun r w'=>r=.returned (.int .i64 (fruns dep s xs).1)∧KeepT T w w'∧Tal T (fruns dep s xs).2 w'∧OkS (fruns dep s xs).2
 obtain ⟨R,eR⟩:∃ R:Int×(Int×Int),Hid (fruns dep s xs=R):=⟨_,rfl⟩
 rw [eR.out]
 obtain ⟨n,en⟩:∃ n:Nat,Hid (xs.length=n):=⟨_,rfl⟩
 rw [en.out] at hl hc ⊢
 go_enter Tryz.func77,Tryz.ntmps77
 go_wp2
 go_loopw [12] (fun v wr=>∃ (k:Nat) (q:Int×Int),k≤n∧v=.int .i64 k∧Hid (R=fruns dep q (xs.drop k))∧KeepT T w wr∧Hid (Tal T q wr)∧Hid (OkS q)) (fun v _=>n - (intOf v).toNat)
 case atStart=>exact ⟨0,s,Nat.zero_le _,rfl,by rw [List.drop_zero];exact eR.out.symm,KeepT.refl _ _,HT,HS⟩
 case round=>
  obtain ⟨i,q,hk,rfl,hr,hK,hT,hs⟩:=hrel
  by_cases hlt:i<n
  case neg=>
   have c2:¬ (i:Int)<n:=by omega
   have hr2:Hid (R=(0,q)):=by
    have h:=hr.out
    rw [List.drop_eq_nil_of_le (by have:=en.out;omega),fruns_nil] at h
    exact h
   go_wp2
   go_ret
   rw [hr2.out]
   exact ⟨rfl,hK,hT.out,hs.out⟩
  have hlt':(i:Int)<n:=by omega
  have kx:i<xs.length:=by have:=en.out;omega
  obtain ⟨b,off,uv,ut,us,ur,rfl,hb,TC,NV,NT,NS,NR⟩:=HX.out i kx
  have hTr:T<wr.heap.size:=Nat.lt_of_lt_of_le hTw hK.size
  have hBr:Below w0.heap.size w0 wr:=hw.trans ((hK.below (B:=w0.heap.size) hT0 (Nat.le_of_lt hTw)))
  obtain ⟨a0,a1,a2,a3,a4,a5,a6,a7,a8,a9⟩:=TC.keepT hK hb.1 hb.2
  have hm1:=mem_lt i kx
  have hm3:=HM.out
  obtain ⟨E2,GT,GR,GF,pv,pt,ps,pr,nv,nt,ns,nr,cv,ct,cs,cr,rfl,rfl,rfl,rfl,cC,cT,cR,cF,hfe⟩:=felem w0 T hT0 dep xs[i] uv ut us ur NV NT NS NR (HIF.out _ _ _ (by have:=xs[i].subs_lt;omega) NS) (HIR.out _ _ _ (by have:=xs[i].rgx_lt;omega) NR)
  have hr2:Hid (R=andT (meetE dep q,meetS dep q) fun s1=>andT (E2,s1) fun s1=>andT (GT s1) fun s1=>andT (GR s1) fun s1=>andT (GF s1) fun s1=>fruns dep s1 (xs.drop (i+1))):=by
   have h:=hr.out
   rw [List.drop_eq_getElem_cons kx,fruns_cons,hfe] at h
   exact h
  clear TC hr hfe hm1 hm3
  generalize xs[i]=x at*
  have cM:Hid (∀ W:World,Tal T q W→Calls Tryz.prog 101 #[.pointer (some ⟨T,0,none⟩),.int .i64 dep] W fun r w'=>r=.returned (.int .i64 (meetE dep q))∧KeepT T W w'∧Tal T (meetS dep q) w'):=fun W hW=>meet_any T dep q W hW hs.out ⟨hd0,hd1⟩
  have HO1:Hid (OkS (meetS dep q)):=meetS_ok hs.out hd0
  have HL:Hid (meetE dep q=0→dep≤24):=meetE_le
  generalize meetS dep q=Q1 at*
  generalize meetE dep q=E1 at*
  generalize x.lo=lo at*
  generalize x.hi=hi at*
  generalize x.nm=nm at*
  generalize x.opn=o at*
  generalize x.op=op at*
  generalize x.k=k at*
  have hTne:wr.heap.size≠T:=by omega
  go_wp2_with fail
  refine (cM.out _ (Tal.alloc hT.out _)).mono ?_
  rintro r w2 ⟨rfl,hk2,ht2⟩
  have e0:w2.cell? ⟨wr.heap.size,0,none⟩=some (.int .i64 k):=(hk2.cell (p:=⟨wr.heap.size,0,none⟩) (by simp) hTne).trans (by simp [go_sem])
  have e1:w2.cell? ⟨wr.heap.size,1,none⟩=some (.string nm):=(hk2.cell (p:=⟨wr.heap.size,1,none⟩) (by simp) hTne).trans (by simp [go_sem])
  have e2:w2.cell? ⟨wr.heap.size,2,none⟩=some (.int .i64 op):=(hk2.cell (p:=⟨wr.heap.size,2,none⟩) (by simp) hTne).trans (by simp [go_sem])
  have e3:w2.cell? ⟨wr.heap.size,3,none⟩=some (.slice pv nv cv):=(hk2.cell (p:=⟨wr.heap.size,3,none⟩) (by simp) hTne).trans (by simp [go_sem])
  have e4:w2.cell? ⟨wr.heap.size,4,none⟩=some (.slice pt nt ct):=(hk2.cell (p:=⟨wr.heap.size,4,none⟩) (by simp) hTne).trans (by simp [go_sem])
  have e5:w2.cell? ⟨wr.heap.size,5,none⟩=some (.int .i64 lo):=(hk2.cell (p:=⟨wr.heap.size,5,none⟩) (by simp) hTne).trans (by simp [go_sem])
  have e6:w2.cell? ⟨wr.heap.size,6,none⟩=some (.int .i64 hi):=(hk2.cell (p:=⟨wr.heap.size,6,none⟩) (by simp) hTne).trans (by simp [go_sem])
  have e7:w2.cell? ⟨wr.heap.size,7,none⟩=some (.bool o):=(hk2.cell (p:=⟨wr.heap.size,7,none⟩) (by simp) hTne).trans (by simp [go_sem])
  have e8:w2.cell? ⟨wr.heap.size,8,none⟩=some (.slice ps ns cs):=(hk2.cell (p:=⟨wr.heap.size,8,none⟩) (by simp) hTne).trans (by simp [go_sem])
  have e9:w2.cell? ⟨wr.heap.size,9,none⟩=some (.slice pr nr cr):=(hk2.cell (p:=⟨wr.heap.size,9,none⟩) (by simp) hTne).trans (by simp [go_sem])
  have hK2:KeepT T w w2:=hK.trans ((KeepT.of ((Below.refl _ _).alloc (Nat.le_refl _) _)).trans hk2)
  have hz2:wr.heap.size<w2.heap.size:=by have:=hk2.size;simp at this;omega
  have HT2:Hid (Tal T Q1 w2):=ht2
  clear hk2 ht2 a0 a1 a2 a3 a4 a5 a6 a7 a8 a9 cM
  by_cases hE1:E1=0
  case neg=>
   have hE1'':(E1 != 0)=true:=by simp [hE1]
   have hR:Hid (R=(E1,Q1)):=hr2.out.trans (andT_ne hE1)
   go_wp2
   go_ret
   rw [hR.out]
   exact ⟨rfl,hK2,HT2.out,HO1.out⟩
  have hd2:dep≤24:=HL.out hE1
  subst hE1
  have hr3:Hid (R=_):=hr2.out.trans andT_eq
  have hB2:Below w0.heap.size w0 w2:=hw.trans (hK2.below hT0 (Nat.le_of_lt hTw))
  clear hr2 HL
  go_wp2_with fail
  refine (cC.out _ hB2).mono ?_
  rintro r w3 ⟨rfl,hb3⟩
  have g4:=(hb3.cell (p:=⟨wr.heap.size,4,none⟩) hz2).trans e4
  have g9:=(hb3.cell (p:=⟨wr.heap.size,9,none⟩) hz2).trans e9
  have g8:=(hb3.cell (p:=⟨wr.heap.size,8,none⟩) hz2).trans e8
  have hK3:KeepT T w w3:=hK2.trans (KeepT.of hb3)
  have HT3:Hid (Tal T Q1 w3):=HT2.out.below hb3
  have hB3:Below w0.heap.size w0 w3:=hw.trans (hK3.below hT0 (Nat.le_of_lt hTw))
  have hz3:wr.heap.size<w3.heap.size:=Nat.lt_of_lt_of_le hz2 hb3.size
  clear cC e0 e1 e2 e3 e4 e5 e6 e7 e8 e9 hb3 HT2 hB2
  by_cases hE2:E2=0
  case neg=>
   have hE2'':(E2 != 0)=true:=by simp [hE2]
   have hR:Hid (R=(E2,Q1)):=hr3.out.trans (andT_ne hE2)
   go_wp2
   go_ret
   rw [hR.out]
   exact ⟨rfl,hK3,HT3.out,HO1.out⟩
  subst hE2
  have hr4:Hid (R=_):=hr3.out.trans andT_eq
  clear hr3
  have hct:=cT.out w3 Q1 hB3 HT3.out HO1.out (by omega) (by omega)
  obtain ⟨⟨E3,Q3⟩,eq0⟩:∃ z,GT Q1=z:=⟨_,rfl⟩
  rw [eq0] at hct
  have hs0:Hid (R=andT (E3,Q3) fun s1=>andT (GR s1) fun s1=>andT (GF s1) fun s1=>fruns dep s1 (xs.drop (i+1))):=by have h:=hr4.out;rw [eq0] at h;exact h
  have CT:Hid (Calls Tryz.prog 103 #[.pointer (some ⟨T,0,none⟩),.int .i64 (dep+1),.slice pt nt ct] w3 fun r w'=>r=.returned (.int .i64 E3)∧KeepT T w3 w'∧Tal T Q3 w'∧OkS Q3):=hct
  clear hct cT eq0 hr4
  go_wp2_with fail
  refine CT.out.mono ?_
  rintro r w4 ⟨rfl,hk4,ht4,ho4⟩
  have hK4:KeepT T w w4:=hK3.trans hk4
  have HT4:Hid (Tal T Q3 w4):=ht4
  have HO4:Hid (OkS Q3):=ho4
  have hB4:Below w0.heap.size w0 w4:=hw.trans (hK4.below hT0 (Nat.le_of_lt hTw))
  have hz4:wr.heap.size<w4.heap.size:=Nat.lt_of_lt_of_le hz3 hk4.size
  have ga9:=(hk4.cell (p:=⟨wr.heap.size,9,none⟩) hz3 hTne).trans g9
  have ga8:=(hk4.cell (p:=⟨wr.heap.size,8,none⟩) hz3 hTne).trans g8
  clear CT hk4 ht4 ho4 g4 g9 g8
  by_cases hE3:E3=0
  case neg=>
   have hE':(E3 != 0)=true:=by simp [hE3]
   have hR:Hid (R=(E3,Q3)):=hs0.out.trans (andT_ne hE3)
   go_wp2
   go_ret
   rw [hR.out]
   exact ⟨rfl,hK4,HT4.out,HO4.out⟩
  subst hE3
  have hr5:Hid (R=_):=hs0.out.trans andT_eq
  clear hs0
  have hct:=cR.out w4 Q3 hB4 HT4.out HO4.out (by omega) (by omega)
  obtain ⟨⟨E4,Q4⟩,eq1⟩:∃ z,GR Q3=z:=⟨_,rfl⟩
  rw [eq1] at hct
  have hs1:Hid (R=andT (E4,Q4) fun s1=>andT (GF s1) fun s1=>fruns dep s1 (xs.drop (i+1))):=by have h:=hr5.out;rw [eq1] at h;exact h
  have CT:Hid (Calls Tryz.prog 104 #[.pointer (some ⟨T,0,none⟩),.int .i64 (dep+1),.slice pr nr cr] w4 fun r w'=>r=.returned (.int .i64 E4)∧KeepT T w4 w'∧Tal T Q4 w'∧OkS Q4):=hct
  clear hct cR eq1 hr5
  go_wp2_with fail
  refine CT.out.mono ?_
  rintro r w5 ⟨rfl,hk5,ht5,ho5⟩
  have hK5:KeepT T w w5:=hK4.trans hk5
  have HT5:Hid (Tal T Q4 w5):=ht5
  have HO5:Hid (OkS Q4):=ho5
  have hB5:Below w0.heap.size w0 w5:=hw.trans (hK5.below hT0 (Nat.le_of_lt hTw))
  have hz5:wr.heap.size<w5.heap.size:=Nat.lt_of_lt_of_le hz4 hk5.size
  have gb8:=(hk5.cell (p:=⟨wr.heap.size,8,none⟩) hz4 hTne).trans ga8
  clear CT hk5 ht5 ho5 ga9 ga8
  by_cases hE4:E4=0
  case neg=>
   have hE':(E4 != 0)=true:=by simp [hE4]
   have hR:Hid (R=(E4,Q4)):=hs1.out.trans (andT_ne hE4)
   go_wp2
   go_ret
   rw [hR.out]
   exact ⟨rfl,hK5,HT5.out,HO5.out⟩
  subst hE4
  have hr6:Hid (R=_):=hs1.out.trans andT_eq
  clear hs1
  have hct:=cF.out w5 Q4 hB5 HT5.out HO5.out (by omega) (by omega)
  obtain ⟨⟨E5,Q5⟩,eq2⟩:∃ z,GF Q4=z:=⟨_,rfl⟩
  rw [eq2] at hct
  have hs2:Hid (R=andT (E5,Q5) fun s1=>fruns dep s1 (xs.drop (i+1))):=by have h:=hr6.out;rw [eq2] at h;exact h
  have CT:Hid (Calls Tryz.prog 77 #[.pointer (some ⟨T,0,none⟩),.int .i64 (dep+1),.slice ps ns cs] w5 fun r w'=>r=.returned (.int .i64 E5)∧KeepT T w5 w'∧Tal T Q5 w'∧OkS Q5):=hct
  clear hct cF eq2 hr6
  go_wp2_with fail
  refine CT.out.mono ?_
  rintro r w6 ⟨rfl,hk6,ht6,ho6⟩
  have hK6:KeepT T w w6:=hK5.trans hk6
  have HT6:Hid (Tal T Q5 w6):=ht6
  have HO6:Hid (OkS Q5):=ho6
  have hB6:Below w0.heap.size w0 w6:=hw.trans (hK6.below hT0 (Nat.le_of_lt hTw))
  have hz6:wr.heap.size<w6.heap.size:=Nat.lt_of_lt_of_le hz5 hk6.size
  clear CT hk6 ht6 ho6 gb8
  by_cases hE5:E5=0
  case neg=>
   have hE':(E5 != 0)=true:=by simp [hE5]
   have hR:Hid (R=(E5,Q5)):=hs2.out.trans (andT_ne hE5)
   go_wp2
   go_ret
   rw [hR.out]
   exact ⟨rfl,hK6,HT6.out,HO6.out⟩
  subst hE5
  have hr7:Hid (R=_):=hs2.out.trans andT_eq
  clear hs2
  go_wp2
  exact ⟨⟨i+1,Q5,by omega,by go_num,hr7,hK6,HT6,HO6⟩,by simp [intOf];omega⟩
theorem fruns_one (dep:Int) (s:Int×Int) (f:Fm):fruns dep s [f]=frun dep s f:=by
 rw [fruns_cons]
 unfold andT
 by_cases h:(frun dep s f).1=0
 ·rw [if_pos h]
  show fruns dep _ []=_
  rw [fruns_nil]
  exact (pair0 h).symm
 ·rw [if_neg h]
def chkF (f:Fm):Int:=if (frun 1 (0,0) f).1=0 then (if 8<(fre f).2 then 30 else 0) else (frun 1 (0,0) f).1
def TalOut (w:World) (f:Fm) (r:Ending) (w':World):Prop:=Below w.heap.size w w'∧((¬ chkF f=0∧r=.returned (.tuple #[.agg #[.int .i64 0,.int .i64 0,.slice none 0 0],.int .i64 (chkF f)]))∨(chkF f=0∧∃ v,r=.returned (.tuple #[.agg #[.int .i64 (frun 1 (0,0) f).2.1,.int .i64 (frun 1 (0,0) f).2.2,v],.int .i64 0])∧NmsAt w' v (fre f).1))
theorem top_one {w0 w:World} {T X:Nat} {f:Fm} {q:FQ} (hq:QAt w0 (f,q)) (hX:X<w.heap.size∧X≠T) (hc:FmC w X 0 f q.v q.t q.s q.r):TopAt w0 w T (.slice (some ⟨X,0,none⟩) 1 1) [f]:=by
 refine ⟨_,_,rfl,by simp,by simp,fun i hi=>⟨X,0,q.v,q.t,q.s,q.r,rfl,hX, ?_⟩⟩
 rcases i with _ | i
 ·exact ⟨hc,hq.1,hq.2.1,hq.2.2.1,hq.2.2.2⟩
 ·simp at hi
theorem fms_one {W:World} {b:Nat} {f:Fm} {q:FQ} (hb:b<W.heap.size) (hq:QAt W (f,q)) (hc:FmC W b 0 f q.v q.t q.s q.r):FmsAt W (.slice (some ⟨b,0,none⟩) 1 1) [f]:=by
 refine .row (b:=b) (off:=0) (fs:=[f]) (fun _=>q.v) (fun _=>q.t) (fun _=>q.s) (fun _=>q.r) (by simp) (by simp) hb ?_ ?_ ?_ ?_ ?_<;>intro i hi<;>(rcases i with _ | i;·first | exact hc | exact hq.1 | exact hq.2.1 | exact hq.2.2.1 | exact hq.2.2.2)<;>simp at hi
theorem tallied_any (f:Fm) (q:FQ) (w:World) (hq:QAt w (f,q)):
  Calls Tryz.prog 46 #[.agg #[.int .i64 f.k,.string f.nm,.int .i64 f.op,q.v,q.t,.int .i64 f.lo,.int .i64 f.hi,.bool f.opn,q.s,q.r]] w (TalOut w f):=by
 have HQ:Hid (QAt w (f,q)):=hq
 obtain ⟨TO,eTO⟩:∃ TO,Hid (TalOut w f=TO):=⟨_,rfl⟩
 rw [eTO.out]
 have cF:Hid (∀ W:World,Below w.heap.size w W→Tal (w.heap.size+2) (0,0) W→w.heap.size+3<W.heap.size→FmC W (w.heap.size+3) 0 f q.v q.t q.s q.r→Calls Tryz.prog 77 #[.pointer (some ⟨w.heap.size+2,0,none⟩),.int .i64 1,.slice (some ⟨w.heap.size+3,0,none⟩) 1 1] W fun r w'=>r=.returned (.int .i64 (frun 1 (0,0) f).1)∧KeepT (w.heap.size+2) W w'∧Tal (w.heap.size+2) (frun 1 (0,0) f).2 w'∧OkS (frun 1 (0,0) f).2):=fun W hW hT hs hc=>by
  have h:=forms_top w (w.heap.size+2) (by omega) [f] _ 1 W (0,0) hW hT ⟨by decide,by decide,by decide,by decide⟩ (by decide) (by decide) (top_one HQ.out ⟨hs,by omega⟩ hc)
  rw [fruns_one] at h
  exact h
 have cE:Hid (∀ (W:World) (b:Nat),Below w.heap.size w W→b<W.heap.size→FmC W b 0 f q.v q.t q.s q.r→wfF f→nodF f≤256→Calls Tryz.prog 78 #[.slice (some ⟨b,0,none⟩) 1 1] W fun r w'=>Below W.heap.size W w'∧∃ v us,r=.returned (.tuple #[v,.int .i64 ((fre f).2:Nat)])∧OwnLN W.heap.size v us [(fre f).1] w'):=fun W b hW hb hc hok hn=>by
  have h:=feach_any _ [f] (.slice (some ⟨b,0,none⟩) 1 1) W (Nat.lt_succ_self _) (by rw [nodFs_cons,nodFs_nil];omega) (by rw [wfFs_cons,wfFs_nil];exact ⟨hok,trivial⟩) (fms_one hb (HQ.out.below hW) hc)
  refine h.mono fun r w' h=>⟨h.1, ?_⟩
  obtain ⟨v,us,h1,h2⟩:=h.2
  refine ⟨v,us, ?_,h2⟩
  rw [h1]
  have:mx ([f].map fun f=>(fre f).2)=(fre f).2:=by simp [mx]
  rw [this]
 have hgood:Hid ((frun 1 (0,0) f).1=0→OkS (frun 1 (0,0) f).2→wfF f∧nodF f≤256∧(fre f).2≤100000):=fun h hs=>by
  have h1:=fruns_good (fs:=[f]) (dep:=1) (s:=(0,0)) (by rw [fruns_one];exact pair0 h)
  rw [wfFs_cons,nodFs_cons,nodFs_nil] at h1
  have h2:((frun 1 (0,0) f).2).1≤256:=hs.2.1
  have h3:=fre_most _ f (Nat.le_refl _) h1.1.1
  refine ⟨h1.1.1, ?_, ?_⟩
  ·have:=h1.2;simp at this;omega
  ·have:=h1.2;simp at this;omega
 have hTO:Hid (∀ r w',Below w.heap.size w w'→((¬ chkF f=0∧r=.returned (.tuple #[.agg #[.int .i64 0,.int .i64 0,.slice none 0 0],.int .i64 (chkF f)]))∨(chkF f=0∧∃ v,r=.returned (.tuple #[.agg #[.int .i64 (frun 1 (0,0) f).2.1,.int .i64 (frun 1 (0,0) f).2.2,v],.int .i64 0])∧NmsAt w' v (fre f).1))→TO r w'):=fun r w' h1 h2=>by
  rw [← eTO.out]
  exact ⟨h1,h2⟩
 have hchk:Hid (chkF f=if (frun 1 (0,0) f).1=0 then (if 8<(fre f).2 then 30 else 0) else (frun 1 (0,0) f).1):=rfl
 obtain ⟨uv,ut,us,ur⟩:=q
 obtain ⟨h1,h2,h3,h4⟩:=hq
 dsimp only at h1 h2 h3 h4 cF cE ⊢
 obtain ⟨-,pv,cv,rfl, -, -⟩:=h1
 obtain ⟨pt,ct,rfl, -⟩:=h2.form
 obtain ⟨ps,cs,rfl, -⟩:=h3.form
 obtain ⟨pr,cr,rfl, -⟩:=h4.form
 clear h2 h3 h4 HQ eTO
 have cF2:Hid (∀ W:World,Below w.heap.size w W→Tal (w.heap.size+1+1) (0,0) W→w.heap.size+1+1+1<W.heap.size→W.cell? ⟨w.heap.size+1+1+1,0,none⟩=some (.int .i64 f.k)→W.cell? ⟨w.heap.size+1+1+1,1,none⟩=some (.string f.nm)→W.cell? ⟨w.heap.size+1+1+1,2,none⟩=some (.int .i64 f.op)→W.cell? ⟨w.heap.size+1+1+1,3,none⟩=some (.slice pv f.vars.length cv)→W.cell? ⟨w.heap.size+1+1+1,4,none⟩=some (.slice pt f.terms.length ct)→W.cell? ⟨w.heap.size+1+1+1,5,none⟩=some (.int .i64 f.lo)→W.cell? ⟨w.heap.size+1+1+1,6,none⟩=some (.int .i64 f.hi)→W.cell? ⟨w.heap.size+1+1+1,7,none⟩=some (.bool f.opn)→W.cell? ⟨w.heap.size+1+1+1,8,none⟩=some (.slice ps f.subs.length cs)→W.cell? ⟨w.heap.size+1+1+1,9,none⟩=some (.slice pr f.rgx.length cr)→Calls Tryz.prog 77 #[.pointer (some ⟨w.heap.size+1+1,0,none⟩),.int .i64 1,.slice (some ⟨w.heap.size+1+1+1,0,none⟩) 1 1] W fun r w'=>r=.returned (.int .i64 (frun 1 (0,0) f).1)∧KeepT (w.heap.size+1+1) W w'∧Tal (w.heap.size+1+1) (frun 1 (0,0) f).2 w'∧OkS (frun 1 (0,0) f).2):=fun W a b c d0 d1 d2 d3 d4 d5 d6 d7 d8 d9=>cF.out W a b c ⟨d0,d1,d2,d3,d4,d5,d6,d7,d8,d9⟩
 have cE2:Hid (∀ (W:World) (b:Nat),Below w.heap.size w W→b<W.heap.size→W.cell? ⟨b,0,none⟩=some (.int .i64 f.k)→W.cell? ⟨b,1,none⟩=some (.string f.nm)→W.cell? ⟨b,2,none⟩=some (.int .i64 f.op)→W.cell? ⟨b,3,none⟩=some (.slice pv f.vars.length cv)→W.cell? ⟨b,4,none⟩=some (.slice pt f.terms.length ct)→W.cell? ⟨b,5,none⟩=some (.int .i64 f.lo)→W.cell? ⟨b,6,none⟩=some (.int .i64 f.hi)→W.cell? ⟨b,7,none⟩=some (.bool f.opn)→W.cell? ⟨b,8,none⟩=some (.slice ps f.subs.length cs)→W.cell? ⟨b,9,none⟩=some (.slice pr f.rgx.length cr)→wfF f→nodF f≤256→Calls Tryz.prog 78 #[.slice (some ⟨b,0,none⟩) 1 1] W fun r w'=>Below W.heap.size W w'∧∃ v us,r=.returned (.tuple #[v,.int .i64 ((fre f).2:Nat)])∧OwnLN W.heap.size v us [(fre f).1] w'):=fun W b a c d0 d1 d2 d3 d4 d5 d6 d7 d8 d9=>cE.out W b a c ⟨d0,d1,d2,d3,d4,d5,d6,d7,d8,d9⟩
 clear cF cE
 generalize chkF f=CK at*
 generalize frun 1 (0,0) f=FR at*
 obtain ⟨E,S⟩:=FR
 dsimp only at*
 generalize (fre f).1=R at*
 generalize (fre f).2=M at*
 generalize f.vars.length=nv at*
 generalize f.terms.length=nt at*
 generalize f.subs.length=ns at*
 generalize f.rgx.length=nr at*
 generalize f.lo=lo at*
 generalize f.hi=hi at*
 generalize f.nm=nm at*
 generalize f.opn=o at*
 generalize f.op=op at*
 generalize f.k=k at*
 go_enter Tryz.func46,Tryz.ntmps46
 go_wp2_with fail
 refine (cF2.out _ (by go_grown) (by refine Tal.alloc ?_ _;unfold Tal;simpa using heap_allocA ((w.alloc _).alloc _) (Obj.cells #[.int .i64 0,.int .i64 0,.slice none 0 0] 79)) (by simp) (by simp [go_sem]) (by simp [go_sem]) (by simp [go_sem]) (by simp [go_sem]) (by simp [go_sem]) (by simp [go_sem]) (by simp [go_sem]) (by simp [go_sem]) (by simp [go_sem]) (by simp [go_sem])).mono ?_
 rintro r w1 ⟨rfl,hk1,ht1,hs1⟩
 have e0:w1.cell? ⟨w.heap.size,0,none⟩=some (.int .i64 k):=(hk1.cell (p:=⟨w.heap.size,0,none⟩) (by first | (simp;done) | (simp;omega)) (by first | (simp;done) | (simp;omega))).trans (by simp [go_sem])
 have e1:w1.cell? ⟨w.heap.size,1,none⟩=some (.string nm):=(hk1.cell (p:=⟨w.heap.size,1,none⟩) (by first | (simp;done) | (simp;omega)) (by first | (simp;done) | (simp;omega))).trans (by simp [go_sem])
 have e2:w1.cell? ⟨w.heap.size,2,none⟩=some (.int .i64 op):=(hk1.cell (p:=⟨w.heap.size,2,none⟩) (by first | (simp;done) | (simp;omega)) (by first | (simp;done) | (simp;omega))).trans (by simp [go_sem])
 have e3:w1.cell? ⟨w.heap.size,3,none⟩=some (.slice pv nv cv):=(hk1.cell (p:=⟨w.heap.size,3,none⟩) (by first | (simp;done) | (simp;omega)) (by first | (simp;done) | (simp;omega))).trans (by simp [go_sem])
 have e4:w1.cell? ⟨w.heap.size,4,none⟩=some (.slice pt nt ct):=(hk1.cell (p:=⟨w.heap.size,4,none⟩) (by first | (simp;done) | (simp;omega)) (by first | (simp;done) | (simp;omega))).trans (by simp [go_sem])
 have e5:w1.cell? ⟨w.heap.size,5,none⟩=some (.int .i64 lo):=(hk1.cell (p:=⟨w.heap.size,5,none⟩) (by first | (simp;done) | (simp;omega)) (by first | (simp;done) | (simp;omega))).trans (by simp [go_sem])
 have e6:w1.cell? ⟨w.heap.size,6,none⟩=some (.int .i64 hi):=(hk1.cell (p:=⟨w.heap.size,6,none⟩) (by first | (simp;done) | (simp;omega)) (by first | (simp;done) | (simp;omega))).trans (by simp [go_sem])
 have e7:w1.cell? ⟨w.heap.size,7,none⟩=some (.bool o):=(hk1.cell (p:=⟨w.heap.size,7,none⟩) (by first | (simp;done) | (simp;omega)) (by first | (simp;done) | (simp;omega))).trans (by simp [go_sem])
 have e8:w1.cell? ⟨w.heap.size,8,none⟩=some (.slice ps ns cs):=(hk1.cell (p:=⟨w.heap.size,8,none⟩) (by first | (simp;done) | (simp;omega)) (by first | (simp;done) | (simp;omega))).trans (by simp [go_sem])
 have e9:w1.cell? ⟨w.heap.size,9,none⟩=some (.slice pr nr cr):=(hk1.cell (p:=⟨w.heap.size,9,none⟩) (by first | (simp;done) | (simp;omega)) (by first | (simp;done) | (simp;omega))).trans (by simp [go_sem])
 have g0:w1.cell? ⟨w.heap.size+1,0,none⟩=some (.int .i64 0):=(hk1.cell (p:=⟨w.heap.size+1,0,none⟩) (by first | (simp;done) | (simp;omega)) (by first | (simp;done) | (simp;omega))).trans (by simp [go_sem])
 have g1:w1.cell? ⟨w.heap.size+1,1,none⟩=some (.int .i64 0):=(hk1.cell (p:=⟨w.heap.size+1,1,none⟩) (by first | (simp;done) | (simp;omega)) (by first | (simp;done) | (simp;omega))).trans (by simp [go_sem])
 have g2:w1.cell? ⟨w.heap.size+1,2,none⟩=some (.slice none 0 0):=(hk1.cell (p:=⟨w.heap.size+1,2,none⟩) (by first | (simp;done) | (simp;omega)) (by first | (simp;done) | (simp;omega))).trans (by simp [go_sem])
 have f0:w1.frozen? ⟨w.heap.size+1,0,none⟩=false:=(World.frozen?_of_block (a:=⟨w.heap.size+1,0,none⟩) (hk1.block (w.heap.size+1) (by first | (simp;done) | (simp;omega)) (by first | (simp;done) | (simp;omega)))).trans (by simp [go_sem])
 have f1:w1.frozen? ⟨w.heap.size+1,1,none⟩=false:=(World.frozen?_of_block (a:=⟨w.heap.size+1,1,none⟩) (hk1.block (w.heap.size+1) (by first | (simp;done) | (simp;omega)) (by first | (simp;done) | (simp;omega)))).trans (by simp [go_sem])
 have f2:w1.frozen? ⟨w.heap.size+1,2,none⟩=false:=(World.frozen?_of_block (a:=⟨w.heap.size+1,2,none⟩) (hk1.block (w.heap.size+1) (by first | (simp;done) | (simp;omega)) (by first | (simp;done) | (simp;omega)))).trans (by simp [go_sem])
 have hB1:Below w.heap.size w w1:=Below.trans (by go_grown) (hk1.below (B:=w.heap.size) (by omega) (by first | (simp;done) | (simp;omega)))
 have hz1:w.heap.size+1+1<w1.heap.size:=ht1.lt
 clear hk1 cF2
 by_cases hE:E=0
 case neg=>
  have hck:Hid (CK=E):=by have h:=hchk.out;rw [if_neg hE] at h;exact h
  have hE':(E != 0)=true:=by simp [hE]
  go_wp2
  refine bodyPost_ret (by simp [results,Tryz.results46,go_sem,g0,g1,g2];try rfl) rfl ?_
  refine hTO.out _ _ ?_ (Or.inl ⟨by rw [hck.out];exact hE,by rw [hck.out]⟩)
  exact hB1.trans (by go_grown)
 subst hE
 obtain ⟨hok,hn,hM⟩:=hgood.out rfl hs1
 have HT1:Hid (Tal (w.heap.size+1+1) S w1):=ht1
 clear ht1 hs1 hgood
 go_wp2_with fail
 refine (cE2.out _ w1.heap.size (hB1.alloc (by omega) _) (by simp) (by simp [go_sem]) (by simp [go_sem]) (by simp [go_sem]) (by simp [go_sem]) (by simp [go_sem]) (by simp [go_sem]) (by simp [go_sem]) (by simp [go_sem]) (by simp [go_sem]) (by simp [go_sem]) hok hn).mono ?_
 rintro r w2 ⟨hb2,v2,us2,rfl,hL2⟩
 have hB2:Below w.heap.size w w2:=(hB1.alloc (by omega) _).trans (hb2.mono (by simp;omega))
 have HT2:Tal (w.heap.size+1+1) S w2:=(HT1.out.alloc _).below hb2
 have t0:w2.cell? ⟨w.heap.size+1+1,0,none⟩=some (.int .i64 S.1):=by rw [Lib.cell_of_heap HT2];rfl
 have t1:w2.cell? ⟨w.heap.size+1+1,1,none⟩=some (.int .i64 S.2):=by rw [Lib.cell_of_heap HT2];rfl
 have t2:w2.cell? ⟨w.heap.size+1+1,2,none⟩=some (.slice none 0 0):=by rw [Lib.cell_of_heap HT2];rfl
 have tf:w2.frozen? ⟨w.heap.size+1+1,2,none⟩=false:=Lib.frozen_of_heap HT2 2
 have hz2:w.heap.size+1+1<w2.heap.size:=HT2.lt
 have g0:w2.cell? ⟨w.heap.size+1,0,none⟩=some (.int .i64 0):=(hb2.cell (p:=⟨w.heap.size+1,0,none⟩) (by simp;omega)).trans ((((Below.refl w1.heap.size w1).alloc (Nat.le_refl _) _).cell (p:=⟨w.heap.size+1,0,none⟩) (by show w.heap.size+1<_;omega)).trans g0)
 have f0:w2.frozen? ⟨w.heap.size+1,0,none⟩=false:=(World.frozen?_of_block (a:=⟨w.heap.size+1,0,none⟩) (hb2.block (w.heap.size+1) (by simp;omega))).trans ((World.frozen?_alloc_old w1 _ ⟨w.heap.size+1,0,none⟩ (by show w.heap.size+1≠_;omega)).trans f0)
 have g1:w2.cell? ⟨w.heap.size+1,1,none⟩=some (.int .i64 0):=(hb2.cell (p:=⟨w.heap.size+1,1,none⟩) (by simp;omega)).trans ((((Below.refl w1.heap.size w1).alloc (Nat.le_refl _) _).cell (p:=⟨w.heap.size+1,1,none⟩) (by show w.heap.size+1<_;omega)).trans g1)
 have f1:w2.frozen? ⟨w.heap.size+1,1,none⟩=false:=(World.frozen?_of_block (a:=⟨w.heap.size+1,1,none⟩) (hb2.block (w.heap.size+1) (by simp;omega))).trans ((World.frozen?_alloc_old w1 _ ⟨w.heap.size+1,1,none⟩ (by show w.heap.size+1≠_;omega)).trans f1)
 have g2:w2.cell? ⟨w.heap.size+1,2,none⟩=some (.slice none 0 0):=(hb2.cell (p:=⟨w.heap.size+1,2,none⟩) (by simp;omega)).trans ((((Below.refl w1.heap.size w1).alloc (Nat.le_refl _) _).cell (p:=⟨w.heap.size+1,2,none⟩) (by show w.heap.size+1<_;omega)).trans g2)
 have f2:w2.frozen? ⟨w.heap.size+1,2,none⟩=false:=(World.frozen?_of_block (a:=⟨w.heap.size+1,2,none⟩) (hb2.block (w.heap.size+1) (by simp;omega))).trans ((World.frozen?_alloc_old w1 _ ⟨w.heap.size+1,2,none⟩ (by show w.heap.size+1≠_;omega)).trans f2)
 have hu0:0<us2.length:=by rw [hL2.2.1];simp
 have HO2:Hid (OwnN (w1.heap.size+1) us2[0] R w2):=by have h:=hL2.2.2.2 0 (by rw [hL2.2.1];simp) (by simp);simp at h;exact h
 have lR:R.length≤9223372036854775807:=hL2.2.2.1 R (by simp)
 obtain ⟨hus,p2,c2,rfl,ha,hb⟩:=hL2.lsts
 have hus1:us2.length=1:=hus
 obtain ⟨b2,off2,rfl,hb2',hc2⟩:=ha 0 (by omega)
 have HN2:Hid (NmsAt w2 us2[0] R):=hb 0 (by omega) (by simp)
 rw [Nat.add_zero] at hc2
 rw [hus1]
 obtain ⟨-,p4,c4,ee, -⟩:=HN2.out
 rw [ee] at hc2 HO2
 have hT2':Hid (Tal (w.heap.size+1+1) S w2):=HT2
 clear hb2 cE2 HT1 HT2 HN2 hL2 ha hb hus hus1 ee hu0 e0 e1 e2 e3 e4 e5 e6 e7 e8 e9
 by_cases hM8:8<M
 ·have hck:Hid (CK=30):=by have h:=hchk.out;rw [if_pos trivial,if_pos hM8] at h;exact h
  have hM':(8:Int)<M:=by omega
  go_wp2
  refine bodyPost_ret (by simp [results,Tryz.results46,go_sem,g0,g1,g2];try rfl) rfl ?_
  refine hTO.out _ _ ?_ (Or.inl ⟨by rw [hck.out];decide,by rw [hck.out]⟩)
  exact hB2.trans (by go_grown)
 ·have hck:Hid (CK=0):=by have h:=hchk.out;rw [if_pos trivial,if_neg hM8] at h;exact h
  have hM':¬ (8:Int)<M:=by omega
  have hf:Hid (∀ (W:World),(∀ q,w1.heap.size+1≤q→W.heap[q]? =w2.heap[q]?)→NmsAt W (.slice p4 R.length c4) R):=fun W hW=>OwnN.nms (B:=w1.heap.size+1) (own_keepP HO2.out fun q hq _=>hW q (World.ownsRow.lt HO2.out q hq).1) lR
  go_wp2
  refine bodyPost_ret (by simp [results,Tryz.results46,go_sem,g0,g1,g2];try rfl) rfl ?_
  refine hTO.out _ _ ?_ (Or.inr ⟨hck.out,_,rfl,hf.out _ fun q hq=> ?_⟩)
  ·exact hB2.trans (by go_grown)
  ·rw [set_block (by omega),set_block (by omega),set_block (by omega),set_block (by omega)]
def sizF (f:Fm):Int×Int:=if chkF f=0 then (frun 1 (0,0) f).2 else (0,0)
def varF (f:Fm):List ByteArray:=if chkF f=0 then (fre f).1 else []
theorem talOut_all {w w':World} {f:Fm} {r:Ending} (h:TalOut w f r w'):Below w.heap.size w w'∧∃ p c,r=.returned (.tuple #[.agg #[.int .i64 (sizF f).1,.int .i64 (sizF f).2,.slice p (varF f).length c],.int .i64 (chkF f)])∧NmsAt w' (.slice p (varF f).length c) (varF f):=by
 obtain ⟨hb,⟨h0,h1⟩ | ⟨h0,v,h1,h2⟩⟩:=h
 ·refine ⟨hb,none,0, ?_⟩
  have e1:sizF f=(0,0):=if_neg h0
  have e2:varF f=[]:=if_neg h0
  rw [e1,e2]
  exact ⟨h1,by simp,none,0,rfl,by simp,Or.inl rfl⟩
 ·have e1:sizF f=(frun 1 (0,0) f).2:=if_pos h0
  have e2:varF f=(fre f).1:=if_pos h0
  obtain ⟨p,c,rfl, -⟩:=h2.form
  refine ⟨hb,p,c, ?_⟩
  rw [e1,e2,h0]
  exact ⟨h1,h2⟩
theorem check_fm (f:Fm) (q:FQ) (w:World) (hq:QAt w (f,q)):Calls Tryz.prog 25 #[.agg #[.int .i64 f.k,.string f.nm,.int .i64 f.op,q.v,q.t,.int .i64 f.lo,.int .i64 f.hi,.bool f.opn,q.s,q.r]] w fun r w'=>r=.returned (.int .i64 (chkF f))∧Below w.heap.size w w':=by
 have cT:Hid (∀ W:World,Below w.heap.size w W→Calls Tryz.prog 46 #[.agg #[.int .i64 f.k,.string f.nm,.int .i64 f.op,q.v,q.t,.int .i64 f.lo,.int .i64 f.hi,.bool f.opn,q.s,q.r]] W fun r w'=>Below W.heap.size W w'∧∃ p c,r=.returned (.tuple #[.agg #[.int .i64 (sizF f).1,.int .i64 (sizF f).2,.slice p (varF f).length c],.int .i64 (chkF f)])):=fun W hW=>(tallied_any f q W (hq.below hW)).mono fun r w' h=>by
  obtain ⟨h1,p,c,h2,h3⟩:=talOut_all h
  exact ⟨h1,p,c,h2⟩
 obtain ⟨uv,ut,us,ur⟩:=q
 obtain ⟨h1,h2,h3,h4⟩:=hq
 dsimp only at h1 h2 h3 h4 cT ⊢
 obtain ⟨-,pv,cv,rfl, -, -⟩:=h1
 obtain ⟨pt,ct,rfl, -⟩:=h2.form
 obtain ⟨ps,cs,rfl, -⟩:=h3.form
 obtain ⟨pr,cr,rfl, -⟩:=h4.form
 clear h2 h3 h4
 generalize chkF f=CK at*
 generalize sizF f=SZ at*
 generalize (varF f).length=nR at*
 generalize f.vars.length=nv at*
 generalize f.terms.length=nt at*
 generalize f.subs.length=ns at*
 generalize f.rgx.length=nr at*
 generalize f.lo=lo at*
 generalize f.hi=hi at*
 generalize f.nm=nm at*
 generalize f.opn=o at*
 generalize f.op=op at*
 generalize f.k=k at*
 go_enter Tryz.func25,Tryz.ntmps25
 go_wp2_with fail
 refine (cT.out _ (by go_grown)).mono ?_
 rintro r w1 ⟨hb,p,c,rfl⟩
 have hB:Below w.heap.size w w1:=Below.trans (by go_grown) (hb.mono (by simp))
 have hz:=hB.size
 clear cT hb
 go_wp2
 go_ret
 exact ⟨rfl,hB.alloc hz _⟩
theorem free_fm (f:Fm) (q:FQ) (w:World) (hq:QAt w (f,q)) (hs:∀ s∈varF f,s.size≤281474976710656):Calls Tryz.prog 50 #[.agg #[.int .i64 f.k,.string f.nm,.int .i64 f.op,q.v,q.t,.int .i64 f.lo,.int .i64 f.hi,.bool f.opn,q.s,q.r]] w fun r w'=>∃ v,r=.returned v∧OwnN w.heap.size v (varF f) w'∧Below w.heap.size w w':=by
 have lv:(varF f).length≤1000000000:=by
  unfold varF
  by_cases h:chkF f=0
  ·rw [if_pos h]
   have h0:(frun 1 (0,0) f).1=0:=by
    unfold chkF at h
    by_cases h1:(frun 1 (0,0) f).1=0
    ·exact h1
    ·rw [if_neg h1] at h;exact absurd h h1
   unfold chkF at h
   rw [if_pos h0] at h
   have h1:¬ 8<(fre f).2:=fun h1=>by rw [if_pos h1] at h;simp at h
   have h2:(fre f).1.length≤(fre f).2:=by rw [fre_eq];exact Nat.le_max_right _ _
   omega
  ·rw [if_neg h];simp
 have cT:Hid (∀ W:World,Below w.heap.size w W→Calls Tryz.prog 46 #[.agg #[.int .i64 f.k,.string f.nm,.int .i64 f.op,q.v,q.t,.int .i64 f.lo,.int .i64 f.hi,.bool f.opn,q.s,q.r]] W fun r w'=>Below W.heap.size W w'∧∃ p c,r=.returned (.tuple #[.agg #[.int .i64 (sizF f).1,.int .i64 (sizF f).2,.slice p (varF f).length c],.int .i64 (chkF f)])∧NmsAt w' (.slice p (varF f).length c) (varF f)):=fun W hW=>(tallied_any f q W (hq.below hW)).mono fun r w' h=>by
  obtain ⟨h1,p,c,h2,h3⟩:=talOut_all h
  exact ⟨h1,p,c,h2,h3⟩
 have cC:Hid (∀ (W:World) (V:Value),NmsAt W V (varF f)→Calls Tryz.prog 82 #[V] W fun e w'=>∃ v,e=.returned v∧OwnN W.heap.size v (varF f) w'∧Below W.heap.size W w'):=fun W V h=>copies_any V _ W h (by omega) hs
 obtain ⟨uv,ut,us,ur⟩:=q
 obtain ⟨h1,h2,h3,h4⟩:=hq
 dsimp only at h1 h2 h3 h4 cT ⊢
 obtain ⟨-,pv,cv,rfl, -, -⟩:=h1
 obtain ⟨pt,ct,rfl, -⟩:=h2.form
 obtain ⟨ps,cs,rfl, -⟩:=h3.form
 obtain ⟨pr,cr,rfl, -⟩:=h4.form
 clear h2 h3 h4 hs
 generalize chkF f=CK at*
 generalize sizF f=SZ at*
 generalize varF f=VF at*
 generalize f.vars.length=nv at*
 generalize f.terms.length=nt at*
 generalize f.subs.length=ns at*
 generalize f.rgx.length=nr at*
 generalize f.lo=lo at*
 generalize f.hi=hi at*
 generalize f.nm=nm at*
 generalize f.opn=o at*
 generalize f.op=op at*
 generalize f.k=k at*
 go_enter Tryz.func50,Tryz.ntmps50
 go_wp2_with fail
 refine (cT.out _ (by go_grown)).mono ?_
 rintro r w1 ⟨hb,p,c,rfl,hN⟩
 have hB:Below w.heap.size w w1:=Below.trans (by go_grown) (hb.mono (by simp))
 have hz:=hB.size
 have HN:Hid (NmsAt w1 (.slice p VF.length c) VF):=hN
 clear cT hb hN
 go_wp2_with fail
 refine (cC.out _ _ (HN.out.below ((Below.refl _ _).alloc (Nat.le_refl _) _))).mono ?_
 rintro r w2 ⟨v2,rfl,hO,hb2⟩
 have hB2:Below w.heap.size w w2:=(hB.alloc hz _).trans (hb2.mono (by simp;omega))
 have HO:Hid (OwnN w.heap.size v2 VF w2):=own_monoB hO (by simp;omega)
 clear cC hO hb2
 go_wp2
 go_ret
 exact ⟨_,rfl,HO.out,hB2⟩
section
mutual
def lgT:Tm→Prop
 | .mk _ n v s=>n.size≤281474976710656∧v.s.size≤281474976710656∧s.length*88≤140737488355328∧lgTs s
def lgTs:List Tm→Prop
 | []=>True
 | t::l=>lgT t∧lgTs l
end
end
theorem lgT_eq (t:Tm):lgT t=(t.nm.size≤281474976710656∧t.v.s.size≤281474976710656∧t.subs.length*88≤140737488355328∧lgTs t.subs):=by cases t;rw [lgT];rfl
theorem lgTs_cons (t:Tm) (l:List Tm):lgTs (t::l)=(lgT t∧lgTs l):=by rw [lgTs]
theorem lgTs_nil:lgTs []=True:=by rw [lgTs]
def PtsAt (w0 w:World) (v:Value) (fs:List Fm):Prop:=∃ p c,v=.slice p fs.length c∧fs.length≤9223372036854775807∧fs.length≤c∧∀ i (hi:i<fs.length),∃ b off q,p=some ⟨b,off,none⟩∧b<w.heap.size∧FmC w b (off+i*10) fs[i] q.v q.t q.s q.r∧QAt w0 (fs[i],q)
theorem OwnF.pts {w0:World} {B:Nat} {v:Value} {L:List Fm} {w:World} (h:OwnF w0 B v L w) (hl:L.length≤9223372036854775807):PtsAt w0 w v L:=by
 obtain ⟨ps,h1,h2,h3⟩:=h
 have h':=h3
 have hlen:ps.length=L.length:=by rw [← h1,List.length_map]
 obtain ⟨hl2,⟨e,hn⟩ | ⟨g,cap,cur,rfl,hg1,hg2,hg3,hg4,hg5,hg6⟩⟩:=h3
 ·exact ⟨none,0,by rw [e,hn],hl,by omega,fun i hi=>by omega⟩
 ·refine ⟨_,_,rfl,hl,hg3,fun i hi=>⟨g,0,(ps[i]'(by omega)).2,rfl,(Array.getElem?_eq_some_iff.1 hg2).1, ?_⟩⟩
  have hc:∀ (j:Nat),j<10→w.cell? ⟨g,0+i*10+j,none⟩=(fcs (ps[i]'(by omega)))[j]?:=fun j hj=>by
   rw [show 0+i*10+j=i*10+j by omega,h'.cellAt _ (by omega),flatF_get ps i j (by omega) hj]
  have he:(ps[i]'(by omega)).1=L[i]:=by
   have h5:(ps.map Prod.fst)[i]? =L[i]?:=by rw [h1]
   rw [List.getElem?_map,List.getElem?_eq_getElem (show i<ps.length by omega),List.getElem?_eq_getElem hi] at h5
   simpa using h5
  rw [← he]
  exact ⟨⟨hc 0 (by omega),hc 1 (by omega),hc 2 (by omega),hc 3 (by omega),hc 4 (by omega),hc 5 (by omega),hc 6 (by omega),hc 7 (by omega),hc 8 (by omega),hc 9 (by omega)⟩,h2 _ (List.getElem_mem _)⟩
theorem andT_ok {x:Int×(Int×Int)} {K:Int×Int→Int×(Int×Int)} (h:OkS x.2) (hK:∀ s,OkS s→OkS (K s).2):OkS (andT x K).2:=by
 unfold andT
 split
 ·exact hK _ h
 ·exact h
theorem both_okS:∀ m:Nat,(∀ (fs:List Fm) (dep:Int) (s:Int×Int),SizeOf.sizeOf fs≤m→OkS s→0≤dep→OkS (fruns dep s fs).2)∧(∀ (rs:List Rx) (dep:Int) (s:Int×Int),SizeOf.sizeOf rs≤m→OkS s→0≤dep→OkS (rruns dep s rs).2):=by
 intro m
 induction m with
 | zero=>exact ⟨fun fs dep s hm=>by cases fs<;>simp at hm,fun rs dep s hm=>by cases rs<;>simp at hm⟩
 | succ m ih=>
  constructor
  ·intro fs dep s hm hs hd
   cases fs with
   | nil=>rw [fruns_nil];exact hs
   | cons f l=>
    have s1:SizeOf.sizeOf l≤m:=by simp at hm;omega
    have s2:SizeOf.sizeOf f.subs≤m:=by have:=Fm.subs_lt f;simp at hm;omega
    have s3:SizeOf.sizeOf f.rgx≤m:=by have:=Fm.rgx_lt f;simp at hm;omega
    rw [fruns_cons,frun_eq]
    exact andT_ok (andT_ok (meetS_ok hs hd) fun s h=>andT_ok h fun s h=>andT_ok (truns_ok _ _ _ _ (Nat.le_refl _) h (by omega)) fun s h=>andT_ok (ih.2 _ _ _ s3 h (by omega)) fun s h=>ih.1 _ _ _ s2 h (by omega)) fun s h=>ih.1 _ _ _ s1 h hd
  ·intro rs dep s hm hs hd
   cases rs with
   | nil=>rw [rruns_nil];exact hs
   | cons r l=>
    have s1:SizeOf.sizeOf l≤m:=by simp at hm;omega
    have s2:SizeOf.sizeOf r.subs≤m:=by have:=Rx.subs_lt r;simp at hm;omega
    have s3:SizeOf.sizeOf r.test≤m:=by have:=Rx.test_lt r;simp at hm;omega
    rw [rruns_cons,rrun_eq]
    exact andT_ok (andT_ok (meetS_ok hs hd) fun s h=>andT_ok h fun s h=>andT_ok (ih.1 _ _ _ s3 h (by omega)) fun s h=>ih.2 _ _ _ s2 h (by omega)) fun s h=>ih.2 _ _ _ s1 h hd
theorem frun_okS (f:Fm):OkS (frun 1 (0,0) f).2:=by
 have h:=(both_okS _).1 [f] 1 (0,0) (Nat.le_refl _) ⟨by decide,by decide,by decide,by decide⟩ (by decide)
 rw [fruns_one] at h
 exact h
theorem chk_good {f:Fm} (h:chkF f=0):wfF f∧nodF f≤256:=by
 have h0:(frun 1 (0,0) f).1=0:=by
  unfold chkF at h
  by_cases h1:(frun 1 (0,0) f).1=0
  ·exact h1
  ·rw [if_neg h1] at h;exact absurd h h1
 have h1:=fruns_good (fs:=[f]) (dep:=1) (s:=(0,0)) (by rw [fruns_one];exact pair0 h0)
 rw [wfFs_cons,nodFs_cons,nodFs_nil] at h1
 have h2:OkS (frun 1 (0,0) f).2:=frun_okS f
 have h3:((frun 1 (0,0) f).2).1≤256:=h2.2.1
 refine ⟨h1.1.1, ?_⟩
 have:=h1.2
 simp at this
 omega
section
mutual
def depT:Tm→Nat
 | .mk _ _ _ s=>1+depTs s
def depTs:List Tm→Nat
 | []=>0
 | t::l=>max (depT t) (depTs l)
end
end
section
mutual
def depF:Fm→Nat
 | .mk _ _ _ _ ts _ _ _ ss rs=>1+max (depTs ts) (max (depRs rs) (depFs ss))
def depFs:List Fm→Nat
 | []=>0
 | f::l=>max (depF f) (depFs l)
def depR:Rx→Nat
 | .mk _ t s=>1+max (depFs t) (depRs s)
def depRs:List Rx→Nat
 | []=>0
 | r::l=>max (depR r) (depRs l)
end
end
theorem depT_eq (t:Tm):depT t=1+depTs t.subs:=by cases t;rw [depT];rfl
theorem depTs_nil:depTs []=0:=by rw [depTs]
theorem depTs_cons (t:Tm) (l:List Tm):depTs (t::l)=max (depT t) (depTs l):=by rw [depTs]
theorem depF_eq (f:Fm):depF f=1+max (depTs f.terms) (max (depRs f.rgx) (depFs f.subs)):=by cases f;rw [depF];rfl
theorem depFs_nil:depFs []=0:=by rw [depFs]
theorem depFs_cons (f:Fm) (l:List Fm):depFs (f::l)=max (depF f) (depFs l):=by rw [depFs]
theorem depR_eq (r:Rx):depR r=1+max (depFs r.test) (depRs r.subs):=by cases r;rw [depR];rfl
theorem depRs_nil:depRs []=0:=by rw [depRs]
theorem depRs_cons (r:Rx) (l:List Rx):depRs (r::l)=max (depR r) (depRs l):=by rw [depRs]
theorem depFs_append (a b:List Fm):depFs (a++b)=max (depFs a) (depFs b):=by
 induction a with
 | nil=>rw [List.nil_append,depFs_nil];omega
 | cons x l ih=>rw [List.cons_append,depFs_cons,depFs_cons,ih];omega
theorem depFs_get (a:List Fm) (i:Nat) (h:i<a.length):depF a[i]≤depFs a:=by
 induction a generalizing i with
 | nil=>simp at h
 | cons x l ih=>
  rw [depFs_cons]
  rcases i with _ | i
  ·simp;omega
  ·have:=ih i (by simpa using h)
   rw [List.getElem_cons_succ]
   omega
theorem rtss_dep:∀ (m:Nat) (rs:List Rx),SizeOf.sizeOf rs≤m→depFs (rtss rs)≤depRs rs:=by
 intro m
 induction m with
 | zero=>intro rs hm;cases rs<;>simp at hm
 | succ m ih=>
  intro rs hm
  cases rs with
  | nil=>rw [rtss_nil,depFs_nil];omega
  | cons r l=>
   have s1:SizeOf.sizeOf l≤m:=by simp at hm;omega
   have s2:SizeOf.sizeOf r.subs≤m:=by have:=Rx.subs_lt r;simp at hm;omega
   have a:=ih l s1
   have b:=ih r.subs s2
   rw [rtss_cons,rts_eq,depFs_append,depFs_append,depRs_cons,depR_eq]
   omega
theorem pts_dep (f:Fm):depFs (ptsF f)<depF f:=by
 rw [depF_eq]
 unfold ptsF
 by_cases h:f.rgx=[]
 ·rw [if_pos h];omega
 ·rw [if_neg h];have:=rtss_dep _ f.rgx (Nat.le_refl _);omega
theorem meet_ok {dep:Int} {s:Int×Int} (h1:dep≤24) (h2:s.1+1≤256):meetE dep s=0∧meetS dep s=(s.1+1,max s.2 dep):=by
 have e:meetE dep s=0:=by unfold meetE;rw [if_neg (by omega),if_neg (by omega)]
 exact ⟨e,by unfold meetS;rw [if_pos e]⟩
theorem truns_fine:∀ (m:Nat) (ts:List Tm) (dep:Int) (s:Int×Int),SizeOf.sizeOf ts≤m→wfTs ts→s.1+nodTs ts≤256→dep - 1+depTs ts≤24→dep - 1≤s.2→truns dep s ts=(0,(s.1+nodTs ts,max s.2 (dep - 1+depTs ts))):=by
 intro m
 induction m with
 | zero=>intro ts dep s hm;cases ts<;>simp at hm
 | succ m ih=>
  intro ts dep s hm hw hn hd hs
  cases ts with
  | nil=>
   rw [truns_nil,nodTs_nil,depTs_nil]
   congr 1
   exact Prod.ext (by simp) (by show s.2=max s.2 (dep - 1+((0:Nat):Int));omega)
  | cons t l=>
   rw [wfTs_cons,wfT_eq] at hw
   rw [nodTs_cons,nodT_eq] at hn ⊢
   rw [depTs_cons,depT_eq] at hd ⊢
   have s1:SizeOf.sizeOf l≤m:=by simp at hm;omega
   have s2:SizeOf.sizeOf t.subs≤m:=by have:=Tm.subs_lt t;simp at hm;omega
   obtain ⟨m1,m2⟩:=meet_ok (dep:=dep) (s:=s) (by omega) (by omega)
   have a:=ih t.subs (dep+1) (s.1+1,max s.2 dep) s2 hw.1.2 (by show s.1+1+_≤_;omega) (by omega) (by show dep+1 - 1≤max s.2 dep;omega)
   have e1:trun dep s t=(0,(s.1+1+nodTs t.subs,max (max s.2 dep) (dep+1 - 1+depTs t.subs))):=by
    rw [trun_eq,if_pos m1,if_pos hw.1.1,m2]
    exact a
   rw [truns_cons,e1,if_pos rfl]
   have b:=ih l dep (s.1+1+nodTs t.subs,max (max s.2 dep) (dep+1 - 1+depTs t.subs)) s1 hw.2 (by show s.1+1+_+_≤_;omega) (by omega) (by show dep - 1≤max (max s.2 dep) _;omega)
   rw [b]
   congr 1
   exact Prod.ext (by show s.1+1+_+_=_;omega) (by show max (max (max s.2 dep) _) _=_;omega)
theorem both_fine:∀ m:Nat,(∀ (fs:List Fm) (dep:Int) (s:Int×Int),SizeOf.sizeOf fs≤m→wfFs fs→s.1+nodFs fs≤256→dep - 1+depFs fs≤24→dep - 1≤s.2→fruns dep s fs=(0,(s.1+nodFs fs,max s.2 (dep - 1+depFs fs))))∧(∀ (rs:List Rx) (dep:Int) (s:Int×Int),SizeOf.sizeOf rs≤m→wfRs rs→s.1+nodRs rs≤256→dep - 1+depRs rs≤24→dep - 1≤s.2→rruns dep s rs=(0,(s.1+nodRs rs,max s.2 (dep - 1+depRs rs)))):=by
 intro m
 induction m with
 | zero=>exact ⟨fun fs dep s hm=>by cases fs<;>simp at hm,fun rs dep s hm=>by cases rs<;>simp at hm⟩
 | succ m ih=>
  constructor
  ·intro fs dep s hm hw hn hd hs
   cases fs with
   | nil=>
    rw [fruns_nil,nodFs_nil,depFs_nil]
    congr 1
    exact Prod.ext (by simp) (by show s.2=max s.2 (dep - 1+((0:Nat):Int));omega)
   | cons f l=>
    rw [wfFs_cons,wfF_eq] at hw
    rw [nodFs_cons,nodF_eq] at hn ⊢
    rw [depFs_cons,depF_eq] at hd ⊢
    obtain ⟨⟨w1,w2,w3,w4⟩,w5⟩:=hw
    have s1:SizeOf.sizeOf l≤m:=by simp at hm;omega
    have s2:SizeOf.sizeOf f.subs≤m:=by have:=Fm.subs_lt f;simp at hm;omega
    have s3:SizeOf.sizeOf f.rgx≤m:=by have:=Fm.rgx_lt f;simp at hm;omega
    obtain ⟨m1,m2⟩:=meet_ok (dep:=dep) (s:=s) (by omega) (by omega)
    rw [fruns_cons,frun_eq,m1,m2,andT_eq,w1,andT_eq]
    rw [truns_fine _ f.terms (dep+1) (s.1+1,max s.2 dep) (Nat.le_refl _) w2 (by show s.1+1+_≤_;omega) (by omega) (by show dep+1 - 1≤max s.2 dep;omega),andT_eq]
    rw [ih.2 f.rgx (dep+1) _ s3 w3 (by show s.1+1+_+_≤_;omega) (by omega) (by show dep+1 - 1≤max (max s.2 dep) _;omega),andT_eq]
    rw [ih.1 f.subs (dep+1) _ s2 w4 (by show s.1+1+_+_+_≤_;omega) (by omega) (by show dep+1 - 1≤max (max (max s.2 dep) _) _;omega),andT_eq]
    rw [ih.1 l dep _ s1 w5 (by show s.1+1+_+_+_+_≤_;omega) (by omega) (by show dep - 1≤max (max (max (max s.2 dep) _) _) _;omega)]
    congr 1
    exact Prod.ext (by show s.1+1+_+_+_+_=_;omega) (by show max (max (max (max (max s.2 dep) _) _) _) _=_;omega)
  ·intro rs dep s hm hw hn hd hs
   cases rs with
   | nil=>
    rw [rruns_nil,nodRs_nil,depRs_nil]
    congr 1
    exact Prod.ext (by simp) (by show s.2=max s.2 (dep - 1+((0:Nat):Int));omega)
   | cons r l=>
    rw [wfRs_cons,wfR_eq] at hw
    rw [nodRs_cons,nodR_eq] at hn ⊢
    rw [depRs_cons,depR_eq] at hd ⊢
    obtain ⟨⟨w1,w2,w3⟩,w5⟩:=hw
    have s1:SizeOf.sizeOf l≤m:=by simp at hm;omega
    have s2:SizeOf.sizeOf r.subs≤m:=by have:=Rx.subs_lt r;simp at hm;omega
    have s3:SizeOf.sizeOf r.test≤m:=by have:=Rx.test_lt r;simp at hm;omega
    obtain ⟨m1,m2⟩:=meet_ok (dep:=dep) (s:=s) (by omega) (by omega)
    rw [rruns_cons,rrun_eq,m1,m2,andT_eq,w1,andT_eq]
    rw [ih.1 r.test (dep+1) (s.1+1,max s.2 dep) s3 w2 (by show s.1+1+_≤_;omega) (by omega) (by show dep+1 - 1≤max s.2 dep;omega),andT_eq]
    rw [ih.2 r.subs (dep+1) _ s2 w3 (by show s.1+1+_+_≤_;omega) (by omega) (by show dep+1 - 1≤max (max s.2 dep) _;omega),andT_eq]
    rw [ih.2 l dep _ s1 w5 (by show s.1+1+_+_+_≤_;omega) (by omega) (by show dep - 1≤max (max (max s.2 dep) _) _;omega)]
    congr 1
    exact Prod.ext (by show s.1+1+_+_+_=_;omega) (by show max (max (max (max s.2 dep) _) _) _=_;omega)
theorem truns_deep:∀ (m:Nat) (ts:List Tm) (dep:Int) (s q:Int×Int),SizeOf.sizeOf ts≤m→truns dep s ts=(0,q)→depTs ts=0∨dep - 1+depTs ts≤24:=by
 intro m
 induction m with
 | zero=>intro ts dep s q hm;cases ts<;>simp at hm
 | succ m ih=>
  intro ts dep s q hm h
  cases ts with
  | nil=>exact Or.inl depTs_nil
  | cons t l=>
   rw [truns_cons] at h
   rw [depTs_cons,depT_eq]
   have s1:SizeOf.sizeOf l≤m:=by simp at hm;omega
   have s2:SizeOf.sizeOf t.subs≤m:=by have:=Tm.subs_lt t;simp at hm;omega
   by_cases h1:(trun dep s t).1=0
   ·rw [if_pos h1] at h
    rw [trun_eq] at h h1
    by_cases h2:meetE dep s=0
    ·rw [if_pos h2] at h h1
     have hd:=meetE_le h2
     by_cases h3:tmE t=0
     ·rw [if_pos h3] at h h1
      have a:=ih t.subs (dep+1) (meetS dep s) (truns (dep+1) (meetS dep s) t.subs).2 s2 (by rw [← h1])
      have b:=ih l dep _ q s1 h
      right
      omega
     ·rw [if_neg h3] at h1
      exact absurd h1 h3
    ·rw [if_neg h2] at h1
     exact absurd h1 h2
   ·rw [if_neg h1] at h
    rw [h] at h1
    exact absurd rfl h1
theorem both_deep:∀ m:Nat,(∀ (fs:List Fm) (dep:Int) (s q:Int×Int),SizeOf.sizeOf fs≤m→fruns dep s fs=(0,q)→depFs fs=0∨dep - 1+depFs fs≤24)∧(∀ (rs:List Rx) (dep:Int) (s q:Int×Int),SizeOf.sizeOf rs≤m→rruns dep s rs=(0,q)→depRs rs=0∨dep - 1+depRs rs≤24):=by
 intro m
 induction m with
 | zero=>exact ⟨fun fs dep s q hm=>by cases fs<;>simp at hm,fun rs dep s q hm=>by cases rs<;>simp at hm⟩
 | succ m ih=>
  constructor
  ·intro fs dep s q hm h
   cases fs with
   | nil=>exact Or.inl depFs_nil
   | cons f l=>
    rw [fruns_cons] at h
    rw [depFs_cons,depF_eq]
    obtain ⟨h1,h2⟩:=andT_zero h
    have s1:SizeOf.sizeOf l≤m:=by simp at hm;omega
    have s2:SizeOf.sizeOf f.subs≤m:=by have:=Fm.subs_lt f;simp at hm;omega
    have s3:SizeOf.sizeOf f.rgx≤m:=by have:=Fm.rgx_lt f;simp at hm;omega
    have b:=ih.1 l dep _ q s1 h2
    have h3:=pair0 h1
    generalize (frun dep s f).2=q2 at*
    rw [frun_eq] at h3
    obtain ⟨c1,h3⟩:=andT_zero h3
    obtain ⟨c2,h3⟩:=andT_zero h3
    obtain ⟨c3,h3⟩:=andT_zero h3
    obtain ⟨c4,h3⟩:=andT_zero h3
    have hd:dep≤24:=meetE_le c1
    have d1:=truns_deep _ f.terms _ _ _ (Nat.le_refl _) (pair0 c3)
    have d2:=ih.2 f.rgx _ _ _ s3 (pair0 c4)
    have d3:=ih.1 f.subs _ _ _ s2 h3
    right
    omega
  ·intro rs dep s q hm h
   cases rs with
   | nil=>exact Or.inl depRs_nil
   | cons r l=>
    rw [rruns_cons] at h
    rw [depRs_cons,depR_eq]
    obtain ⟨h1,h2⟩:=andT_zero h
    have s1:SizeOf.sizeOf l≤m:=by simp at hm;omega
    have s2:SizeOf.sizeOf r.subs≤m:=by have:=Rx.subs_lt r;simp at hm;omega
    have s3:SizeOf.sizeOf r.test≤m:=by have:=Rx.test_lt r;simp at hm;omega
    have b:=ih.2 l dep _ q s1 h2
    have h3:=pair0 h1
    generalize (rrun dep s r).2=q2 at*
    rw [rrun_eq] at h3
    obtain ⟨c1,h3⟩:=andT_zero h3
    obtain ⟨c2,h3⟩:=andT_zero h3
    obtain ⟨c4,h3⟩:=andT_zero h3
    have hd:dep≤24:=meetE_le c1
    have d2:=ih.1 r.test _ _ _ s3 (pair0 c4)
    have d3:=ih.2 r.subs _ _ _ s2 h3
    right
    omega
theorem chk_iff (f:Fm):chkF f=0↔wfF f∧nodF f≤256∧depF f≤24∧(fre f).2≤8:=by
 constructor
 ·intro h
  have g:=chk_good h
  have h0:(frun 1 (0,0) f).1=0:=by
   unfold chkF at h
   by_cases h1:(frun 1 (0,0) f).1=0
   ·exact h1
   ·rw [if_neg h1] at h;exact absurd h h1
  have d:=(both_deep _).1 [f] 1 (0,0) _ (Nat.le_refl _) (by rw [fruns_one];exact pair0 h0)
  rw [depFs_cons,depFs_nil] at d
  unfold chkF at h
  rw [if_pos h0] at h
  have e:¬ 8<(fre f).2:=fun e=>by rw [if_pos e] at h;simp at h
  exact ⟨g.1,g.2,by omega,by omega⟩
 ·rintro ⟨h1,h2,h3,h4⟩
  have a:=(both_fine _).1 [f] 1 (0,0) (Nat.le_refl _) (by rw [wfFs_cons,wfFs_nil];exact ⟨h1,trivial⟩) (by rw [nodFs_cons,nodFs_nil];show (0:Int)+_≤_;omega) (by rw [depFs_cons,depFs_nil];omega) (by decide)
  rw [fruns_one] at a
  unfold chkF
  rw [a,if_pos rfl,if_neg (by omega)]
theorem mx_ge {l:List Nat} {x:Nat} (h:x∈l):x≤mx l:=by
 unfold mx
 suffices H:∀ (l:List Nat) (a:Nat),(x∈l∨x≤a)→x≤l.foldl max a from H l 0 (Or.inl h)
 intro l
 induction l with
 | nil=>intro a h;simpa using h
 | cons y l ih=>
  intro a h
  refine ih (max a y) ?_
  rcases h with h | h
  ·rcases List.mem_cons.1 h with h | h
   ·right;omega
   ·exact Or.inl h
  ·right;omega
theorem part_chk {f:Fm} (h:chkF f=0) {i:Nat} (hi:i<(ptsF f).length):chkF (ptsF f)[i]=0∧depF (ptsF f)[i]<depF f∧nodF (ptsF f)[i]≤nodFs (ptsF f):=by
 obtain ⟨h1,h2,h3,h4⟩:=(chk_iff f).1 h
 have a:=pts_nod f
 have b:=nodFs_get (ptsF f) i hi
 have c:=pts_dep f
 have d:=depFs_get (ptsF f) i hi
 have e:(fre (ptsF f)[i]).2≤(fre f).2:=by
  rw [fre_eq f]
  exact Nat.le_trans (mx_ge (List.mem_map.2 ⟨_,List.getElem_mem hi,rfl⟩)) (Nat.le_max_left _ _)
 exact ⟨(chk_iff _).2 ⟨wfFs_get _ i hi (pts_ok h1),by omega,by omega,by omega⟩,by omega,b⟩
theorem nameB_size {s:ByteArray} (h:nameB s=true):s.size≤16:=by
 unfold nameB nameL at h
 simp only [Bool.and_eq_true,decide_eq_true_eq] at h
 have:s.data.toList.length=s.size:=by simp
 omega
theorem nil_size {s:ByteArray} (h:(s.toList==[])=true):s.size=0:=by
 have h1:s.toList=[]:=by simpa using h
 rw [ByteArray.toList_eq] at h1
 have:s.data.toList.length=s.size:=by simp
 rw [h1] at this
 simpa using this.symm
theorem namesB_all:∀ {l:List ByteArray},namesB l=true→∀ s∈l,nameB s=true
 | [],_,s,hs=>by cases hs
 | x::l,h,s,hs=>by
  rw [namesB,Bool.and_eq_true] at h
  rcases List.mem_cons.1 hs with rfl | hs
  ·exact h.1
  ·exact namesB_all h.2 s hs
theorem fm_names {f:Fm} (h:fmE f=0):namesB f.vars=true∧(if (frm f.k).nm=true then nameB f.nm else f.nm.toList==[])=true:=by
 unfold fmE at h
 by_cases h1:f.k<1∨22<f.k
 ·rw [if_pos h1] at h;simp at h
 rw [if_neg h1] at h
 by_cases h2:manyB f.k f.vars.length f.terms.length=true
 ·rw [if_pos h2] at h;simp at h
 rw [if_neg h2] at h
 by_cases h3:formedM (frm f.k) f.op f.lo f.hi f.nm f.opn f.vars f.terms.length f.subs.length f.rgx.length=false
 ·rw [if_pos h3] at h;simp at h
 have h4:formedM (frm f.k) f.op f.lo f.hi f.nm f.opn f.vars f.terms.length f.subs.length f.rgx.length=true:=by
  cases h5:formedM (frm f.k) f.op f.lo f.hi f.nm f.opn f.vars f.terms.length f.subs.length f.rgx.length with
  | false=>exact absurd h5 h3
  | true=>rfl
 unfold formedM at h4
 rw [Bool.and_eq_true,Bool.and_eq_true,Bool.and_eq_true,Bool.and_eq_true,Bool.and_eq_true,Bool.and_eq_true] at h4
 exact ⟨h4.2.2.2.2.1,h4.2.2.2.2.2.1⟩
theorem tm_sizes {t:Tm} (h:tmE t=0):t.nm.size≤16∧t.v.s.size≤64∧(t.k=1→nameB t.nm=true):=by
 unfold tmE at h
 by_cases h1:t.k<1∨5<t.k
 ·rw [if_pos h1] at h;simp at h
 rw [if_neg h1] at h
 by_cases h2:(if t.k=1 then nameB t.nm else t.nm.toList==[])=false∨t.subs.length≠(if 3≤t.k then 2 else 0)
 ·rw [if_pos h2] at h;simp at h
 rw [if_neg h2] at h
 have h3:(if t.k=1 then nameB t.nm else t.nm.toList==[])=true:=by
  cases h4:(if t.k=1 then nameB t.nm else t.nm.toList==[]) with
  | false=>exact absurd (Or.inl h4) h2
  | true=>rfl
 have hn:t.nm.size≤16:=by
  by_cases h5:t.k=1
  ·rw [if_pos h5] at h3;exact nameB_size h3
  ·rw [if_neg h5] at h3;have:=nil_size h3;omega
 refine ⟨hn, ?_,fun h5=>by rw [if_pos h5] at h3;exact h3⟩
 by_cases h6:t.k=2
 ·rw [if_pos h6] at h
  unfold Val.may chk at h
  by_cases h7:pureB t.v.k t.v.n t.v.d t.v.s=false
  ·rw [if_pos h7] at h;simp at h
  ·rw [if_neg h7] at h
   by_cases h8:64<t.v.s.size
   ·rw [if_pos h8] at h;simp at h
   ·omega
 ·rw [if_neg h6] at h
  by_cases h7:sameB t.v.k t.v.n t.v.d t.v.s 0 0 0 ⟨#[]⟩=true
  ·unfold sameB at h7
   rw [Bool.and_eq_true,Bool.and_eq_true,Bool.and_eq_true] at h7
   have h8:t.v.s.toList=[]:=by have:=h7.2.2.2;simpa using this
   have h9:=nil_size (s:=t.v.s) (by rw [h8];rfl)
   omega
  ·rw [if_neg h7] at h;simp at h
theorem nodTs_len (a:List Tm):a.length≤nodTs a:=by
 induction a with
 | nil=>simp
 | cons x l ih=>rw [nodTs_cons,nodT_eq,List.length_cons];omega
theorem tms_lg:∀ (m:Nat) (ts:List Tm),SizeOf.sizeOf ts≤m→wfTs ts→nodTs ts≤256→lgTs ts:=by
 intro m
 induction m with
 | zero=>intro ts hm;cases ts<;>simp at hm
 | succ m ih=>
  intro ts hm hw hn
  cases ts with
  | nil=>rw [lgTs_nil];trivial
  | cons t l=>
   rw [wfTs_cons,wfT_eq] at hw
   rw [nodTs_cons,nodT_eq] at hn
   have s1:SizeOf.sizeOf l≤m:=by simp at hm;omega
   have s2:SizeOf.sizeOf t.subs≤m:=by have:=Tm.subs_lt t;simp at hm;omega
   obtain ⟨a,b, -⟩:=tm_sizes hw.1.1
   have c:=nodTs_len t.subs
   rw [lgTs_cons,lgT_eq]
   exact ⟨⟨by omega,by omega,by omega,ih _ s2 hw.1.2 (by omega)⟩,ih _ s1 hw.2 (by omega)⟩
def Rises (l:List ByteArray):Prop:=l.Pairwise fun x y=>x.data.toList<y.data.toList
theorem cmp_up {d:Array (List UInt8)} (hd:∀ i j,i<j→j<d.size→d[i]!≤d[j]!):∀ m,m≤d.size→(Lib.compactUpTo d m).Pairwise (·<·)∧(∀ y∈Lib.compactUpTo d m,∃ j,j<m∧y=d[j]!)∧∀ j,j<m→d[j]!∈Lib.compactUpTo d m:=by
 intro m
 induction m with
 | zero=>intro _;exact ⟨by simp [Lib.compactUpTo],fun y hy=>by simp [Lib.compactUpTo] at hy,fun j hj=>by omega⟩
 | succ m ih=>
  intro hm
  obtain ⟨a,b,c⟩:=ih (by omega)
  rw [Lib.compactUpTo_succ]
  by_cases hk:Lib.keeps d m=true
  ·rw [if_pos hk]
   refine ⟨List.pairwise_append.2 ⟨a,by simp,fun y hy z hz=> ?_⟩,fun y hy=> ?_,fun j hj=> ?_⟩
   ·simp only [List.mem_singleton] at hz
    subst hz
    obtain ⟨j,hj,rfl⟩:=b y hy
    have h1:d[m]!≠d[m - 1]!:=by
     unfold Lib.keeps at hk
     rcases of_decide_eq_true hk with h | h
     ·omega
     ·exact h
    have h2:d[m - 1]!≤d[m]!:=hd (m - 1) m (by omega) (by omega)
    have h3:d[m - 1]! <d[m]!:=by
     rcases Decidable.em (d[m - 1]! <d[m]!) with h | h
     ·exact h
     ·exact absurd (List.le_antisymm h h2) h1
    by_cases hjm:j=m - 1
    ·subst hjm;exact h3
    ·exact List.lt_of_le_of_lt (hd j (m - 1) (by omega) (by omega)) h3
   ·rcases List.mem_append.1 hy with hy | hy
    ·obtain ⟨j,hj,rfl⟩:=b y hy
     exact ⟨j,by omega,rfl⟩
    ·simp only [List.mem_singleton] at hy
     exact ⟨m,by omega,hy⟩
   ·by_cases hjm:j=m
    ·subst hjm;simp
    ·exact List.mem_append_left _ (c j (by omega))
  ·rw [if_neg hk,List.append_nil]
   refine ⟨a,fun y hy=> ?_,fun j hj=> ?_⟩
   ·obtain ⟨j,hj,rfl⟩:=b y hy
    exact ⟨j,by omega,rfl⟩
   ·by_cases hjm:j=m
    ·subst hjm
     unfold Lib.keeps at hk
     simp only [decide_eq_true_eq] at hk
     have h0:j≠0:=fun h=>hk (Or.inl h)
     have h1:d[j]! =d[j - 1]!:=Decidable.byContradiction fun h=>hk (Or.inr h)
     rw [h1]
     exact c (j - 1) (by omega)
    ·exact c j (by omega)
theorem bts_unb (l:List (List UInt8)):bts (unb l)=l:=by
 unfold bts unb
 rw [List.map_map]
 have:((fun x:ByteArray=>x.data.toList) ∘ fun x:List UInt8=>(⟨x.toArray⟩:ByteArray))=id:=by funext x;rfl
 rw [this,List.map_id]
theorem mem_unb {l:List (List UInt8)} {x:ByteArray}:x∈unb l↔x.data.toList∈l:=by
 unfold unb
 constructor
 ·intro h
  obtain ⟨y,hy,rfl⟩:=List.mem_map.1 h
  exact hy
 ·intro h
  exact List.mem_map.2 ⟨_,h,by cases x;rfl⟩
theorem mem_bts {l:List ByteArray} {x:ByteArray}:x.data.toList∈bts l↔x∈l:=by
 conv=>rhs;rw [← unb_bts l]
 exact mem_unb.symm
theorem srt_up (L:List ByteArray):∀ i j,i<j→j<((bts L).mergeSort fun x y=>decide (x≤y)).toArray.size→((bts L).mergeSort fun x y=>decide (x≤y)).toArray[i]!≤((bts L).mergeSort fun x y=>decide (x≤y)).toArray[j]!:=by
 intro i j hij hj
 have h:=List.pairwise_mergeSort (le:=fun x y:List UInt8=>decide (x≤y)) (fun a b c h1 h2=>by simp only [decide_eq_true_eq] at h1 h2 ⊢;exact List.le_trans h1 h2) (fun a b=>by rcases List.le_total a b with h | h<;>simp [h]) (bts L)
 have h2:=List.pairwise_iff_getElem.1 h i j (by simp at hj;simp;omega) (by simpa using hj) hij
 rw [getElem!_pos _ i (by omega),getElem!_pos _ j hj]
 simpa using h2
theorem uni_up (rs:List (List ByteArray)):Rises (uniN rs)∧∀ x,x∈uniN rs↔x∈rs.flatten:=by
 have e:uniN rs=unb (Lib.compact ((bts rs.flatten).mergeSort fun x y=>decide (x≤y))):=by
  unfold uniN cmpN srtN
  rw [bts_unb]
 obtain ⟨a,b,c⟩:=cmp_up (srt_up rs.flatten) _ (Nat.le_refl _)
 have ec:Lib.compact ((bts rs.flatten).mergeSort fun x y=>decide (x≤y))=Lib.compactUpTo ((bts rs.flatten).mergeSort fun x y=>decide (x≤y)).toArray ((bts rs.flatten).mergeSort fun x y=>decide (x≤y)).toArray.size:=by
  unfold Lib.compact
  simp
 rw [← ec] at a b c
 rw [e]
 refine ⟨?_,fun x=> ?_⟩
 ·unfold Rises unb
  rw [List.pairwise_map]
  exact a
 ·rw [mem_unb]
  constructor
  ·intro h
   obtain ⟨j,hj,h2⟩:=b _ h
   rw [getElem!_pos _ j hj] at h2
   have h3:x.data.toList∈(bts rs.flatten).mergeSort fun x y=>decide (x≤y):=by rw [h2];simp
   exact mem_bts.1 (List.mem_mergeSort.1 h3)
  ·intro h
   have h3:x.data.toList∈(bts rs.flatten).mergeSort fun x y=>decide (x≤y):=List.mem_mergeSort.2 (mem_bts.2 h)
   obtain ⟨j,hj,h4⟩:=List.getElem_of_mem h3
   have h5:=c j (by simpa using hj)
   rw [getElem!_pos _ j (by simpa using hj)] at h5
   simp at h5
   rw [h4] at h5
   exact h5
theorem tvss_names:∀ (m:Nat) (ts:List Tm),SizeOf.sizeOf ts≤m→wfTs ts→∀ x∈tvss ts,nameB x=true:=by
 intro m
 induction m with
 | zero=>intro ts hm;cases ts<;>simp at hm
 | succ m ih=>
  intro ts hm hw x hx
  cases ts with
  | nil=>rw [tvss_nil] at hx;cases hx
  | cons t l=>
   rw [wfTs_cons,wfT_eq] at hw
   have s1:SizeOf.sizeOf l≤m:=by simp at hm;omega
   have s2:SizeOf.sizeOf t.subs≤m:=by have:=Tm.subs_lt t;simp at hm;omega
   rw [tvss_cons,tvs_eq] at hx
   rcases List.mem_append.1 hx with hx | hx
   ·rcases List.mem_append.1 hx with hx | hx
    ·by_cases h1:t.k=1
     ·rw [if_pos h1] at hx
      simp only [List.mem_singleton] at hx
      subst hx
      exact (tm_sizes hw.1.1).2.2 h1
     ·rw [if_neg h1] at hx;cases hx
    ·exact ih _ s2 hw.1.2 x hx
   ·exact ih _ s1 hw.2 x hx
theorem hd_map {α:Type} (g:Fm→List α):∀ (l:List Fm) (h:0<l.length),(l.map g).headD []=g l[0]
 | [],h=>by simp at h
 | x::l,_=>rfl
theorem fre_up:∀ (m:Nat) (f:Fm),nodF f≤m→wfF f→Rises (fre f).1∧(f.k≠19→∀ x∈(fre f).1,x∈tvss f.terms∨∃ i,∃ h:i<(ptsF f).length,x∈(fre (ptsF f)[i]).1)∧∀ x∈(fre f).1,nameB x=true:=by
 intro m
 induction m with
 | zero=>intro f hm;rw [nodF_eq] at hm;omega
 | succ m ih=>
  intro f hm hok
  have hp:=pts_nod f
  have hpo:=pts_ok hok
  have hE:fmE f=0:=by rw [wfF_eq] at hok;exact hok.1
  have hT:wfTs f.terms:=by rw [wfF_eq] at hok;exact hok.2.1
  have IH:∀ i (h:i<(ptsF f).length),Rises (fre (ptsF f)[i]).1∧∀ x∈(fre (ptsF f)[i]).1,nameB x=true:=fun i h=>by
   have:=nodFs_get (ptsF f) i h
   obtain ⟨a, -,c⟩:=ih (ptsF f)[i] (by omega) (wfFs_get _ i h hpo)
   exact ⟨a,c⟩
  rw [fre_eq]
  show Rises (freO f ((ptsF f).map fun g=>(fre g).1))∧(f.k≠19→∀ x∈freO f ((ptsF f).map fun g=>(fre g).1),_)∧∀ x∈freO f ((ptsF f).map fun g=>(fre g).1),nameB x=true
  unfold freO
  by_cases h10:f.k=10
  ·rw [if_pos h10]
   have h0:=fm_10 hE h10
   rw [hd_map (fun g=>(fre g).1) (ptsF f) h0]
   obtain ⟨a,c⟩:=IH 0 h0
   exact ⟨List.Pairwise.filter _ a,fun _ x hx=>Or.inr ⟨0,h0,(List.mem_filter.1 hx).1⟩,fun x hx=>c x (List.mem_filter.1 hx).1⟩
  rw [if_neg h10]
  by_cases h19:f.k=19
  ·rw [if_pos h19]
   obtain ⟨a,b⟩:=uni_up [[f.nm],f.vars.drop 1]
   refine ⟨a,fun h=>absurd h19 h,fun x hx=> ?_⟩
   have h1:=(b x).1 hx
   rw [List.flatten_cons,List.flatten_cons,List.flatten_nil,List.append_nil] at h1
   obtain ⟨n1,n2⟩:=fm_names hE
   rcases List.mem_append.1 h1 with h1 | h1
   ·simp only [List.mem_singleton] at h1
    subst h1
    rw [h19,if_pos (by decide)] at n2
    exact n2
   ·exact namesB_all n1 x (List.mem_of_mem_drop h1)
  rw [if_neg h19]
  by_cases h20:f.k=20∨f.k=21
  ·rw [if_pos h20]
   have h0:=fm_20 hE h20
   rw [getD_lt _ _ _ (by rw [List.length_map];exact h0),List.getElem_map]
   obtain ⟨a,c⟩:=IH 1 h0
   exact ⟨a,fun _ x hx=>Or.inr ⟨1,h0,hx⟩,c⟩
  rw [if_neg h20]
  obtain ⟨a,b⟩:=uni_up [tvss f.terms,uniN ((ptsF f).map fun g=>(fre g).1)]
  have mem:∀ x∈uniN [tvss f.terms,uniN ((ptsF f).map fun g=>(fre g).1)],x∈tvss f.terms∨∃ i,∃ h:i<(ptsF f).length,x∈(fre (ptsF f)[i]).1:=fun x hx=>by
   have h1:=(b x).1 hx
   rw [List.flatten_cons,List.flatten_cons,List.flatten_nil,List.append_nil] at h1
   rcases List.mem_append.1 h1 with h1 | h1
   ·exact Or.inl h1
   ·right
    have h2:=((uni_up _).2 x).1 h1
    obtain ⟨l,hl,hx2⟩:=List.mem_flatten.1 h2
    obtain ⟨g,hg,rfl⟩:=List.mem_map.1 hl
    obtain ⟨i,hi,rfl⟩:=List.getElem_of_mem hg
    exact ⟨i,hi,hx2⟩
  refine ⟨a,fun _=>mem,fun x hx=> ?_⟩
  rcases mem x hx with h1 | ⟨i,hi,h1⟩
  ·exact tvss_names _ _ (Nat.le_refl _) hT x h1
  ·exact (IH i hi).2 x h1
end Go.Proofs.YthodedagbbifbaaGreat
