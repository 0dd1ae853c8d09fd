/- What syntaxBack_holds needs besides. -/
import Derived.Test.YticnfeolbfmgfaaGreatDoorZ10
import Derived.Deep.DeepCutAuto
set_option maxRecDepth 100000
set_option maxHeartbeats 8000000
namespace Go.Proofs.YticnfeolbfmgfaaGreatDoor
open Go.RowKit LX Go.Shelf
set_option linter.unusedVariables false
def Nz {α:Type} (m:Nat):Rd α→Prop
 | .bad e _=>e≠0
 | .ok _ r=>r.length+1≤m
theorem Nz.bind {α β:Type} {m m':Nat} {x:Rd α} {f:α→List (Tok Val)→Rd β} (hx:Nz m x) (hf:∀ a r,r.length+1≤m→Nz m' (f a r)):Nz m' (x.bind f):=by
 cases x with
 | bad e a=>exact hx
 | ok a r=>exact hf a r hx
theorem Nz.mono {α:Type} {m m':Nat} {x:Rd α} (h:Nz m x) (hm:m≤m'):Nz m' x:=by
 cases x with
 | bad e a=>exact h
 | ok a r=>exact Nat.le_trans h hm
theorem Nz.b70 {α:Type} (m:Nat) (a:Int):Nz m (Rd.bad 70 a:Rd α):=show (70:Int)≠0 by decide
theorem Nz.b71 {α:Type} (m:Nat) (a:Int):Nz m (Rd.bad 71 a:Rd α):=show (71:Int)≠0 by decide
theorem Nz.ok {α:Type} {m:Nat} (x:α) {r:List (Tok Val)} (h:r.length+1≤m):Nz m (Rd.ok x r):=h
theorem nz_next (sz:Nat) (ts:List (Tok Val)):Nz ts.length (rNext sz ts):=by
 cases ts with
 | nil=>exact Nz.b70 _ _
 | cons t r=>exact Nz.ok _ (by simp)
theorem nz_beg (sz:Nat) (d:Int) (ts:List (Tok Val)):Nz ts.length (rBeg sz d ts):=by
 cases ts with
 | nil=>exact Nz.b70 _ _
 | cons t r=>
  rw [rBeg]
  split
  ·exact Nz.b71 _ _
  ·exact Nz.ok _ (by simp)
theorem nz_exp (sz:Nat) (c:List UInt8) (ts:List (Tok Val)):Nz ts.length (rExp sz c ts):=by
 cases ts with
 | nil=>exact Nz.b70 _ _
 | cons t r=>
  rw [rExp]
  split
  ·exact Nz.ok _ (by simp)
  ·exact Nz.b70 _ _
theorem nz_name (sz:Nat) (ts:List (Tok Val)):Nz ts.length (rName sz ts):=by
 cases ts with
 | nil=>exact Nz.b70 _ _
 | cons t r=>
  rw [rName]
  split
  ·exact Nz.ok _ (by simp)
  ·exact Nz.b70 _ _
theorem nz_nms (sz:Nat):∀ ts:List (Tok Val),Nz (ts.length+1) (rNms sz ts)
 | []=>Nz.b70 _ _
 | t::r=>by
  unfold rNms
  split
  ·exact Nz.ok _ (Nat.le_refl _)
  ·split
   ·exact (nz_nms sz r).bind fun a r' h=>Nz.ok _ (by simp;omega)
   ·exact Nz.b70 _ _
theorem nz_list (sz:Nat) (ts:List (Tok Val)):Nz (ts.length+1) (rList sz ts):=
 (nz_exp sz _ ts).bind fun _ r h=>(nz_nms sz r).bind fun l r' h'=>(nz_exp sz _ r').bind fun _ r'' h''=>Nz.ok _ (by omega)
theorem nz_many {α:Type} {p:List (Tok Val)→Rd α} {N:Nat} (hp:∀ ts,ts.length<N→Nz ts.length (p ts)) (more:Bool):∀ (n k:Nat) (ts:List (Tok Val)),ts.length<n→ts.length<N→Nz (ts.length+1) (rMany p more n k ts)
 | 0,_,_,h,_=>absurd h (Nat.not_lt_zero _)
 | n+1,k,ts,h,hN=>by
  unfold rMany
  split
  ·exact (hp ts hN).bind fun a r h1=>(nz_many hp more n (k - 1) r (by omega) (by omega)).bind fun l r' h'=>Nz.ok _ (by omega)
  ·exact Nz.ok _ (Nat.le_refl _)
theorem nz_iv (sz:Nat) (ts:List (Tok Val)):Nz (ts.length+1) (rIv sz ts):=by
 cases ts with
 | nil=>exact Nz.b70 _ _
 | cons t r=>
  rw [rIv]
  split
  ·exact Nz.ok _ (by simp)
  ·exact Nz.b70 _ _
theorem nz_op (sz:Nat) (ts:List (Tok Val)):Nz (ts.length+1) (rOp sz ts):=by
 cases ts with
 | nil=>exact Nz.b70 _ _
 | cons t r=>
  rw [rOp]
  split
  ·exact Nz.b70 _ _
  ·exact Nz.ok _ (by simp)
theorem nz_if {α:Type} (b:Bool) (z:α) {p:List (Tok Val)→Rd α} (hp:∀ ts,Nz (ts.length+1) (p ts)) (ts:List (Tok Val)):Nz (ts.length+1) (rIf b z p ts):=by
 unfold rIf
 split
 ·exact hp ts
 ·exact Nz.ok _ (Nat.le_refl _)
theorem nz_T (sz:Nat):∀ (n:Nat) (d:Int) (ts:List (Tok Val)),ts.length<n→Nz ts.length (pT sz n d ts)
 | 0,_,_,h=>absurd h (Nat.not_lt_zero _)
 | n+1,d,ts,hn=>by
  unfold pT
  refine (nz_beg sz d ts).bind fun t r h=> ?_
  split
  ·exact Nz.ok _ h
  ·split
   ·exact Nz.ok _ h
   ·split
    ·refine (nz_next sz r).bind fun t' r2 h2=> ?_
     split
     ·exact Nz.b70 _ _
     ·exact (nz_many (N:=n) (nz_T sz n (d+1)) false n 2 r2 (by omega) (by omega)).bind fun l r3 h3=>(nz_exp sz _ r3).bind fun _ r4 h4=>Nz.ok _ (by omega)
    ·exact Nz.b70 _ _
theorem nz_shaped {sz n:Nat} {pt:List (Tok Val)→Rd Tm} {pf:List (Tok Val)→Rd Fm} {pr:List (Tok Val)→Rd Rx} (ht:∀ ts,ts.length<n→Nz ts.length (pt ts)) (hf:∀ ts,ts.length<n→Nz ts.length (pf ts)) (hr:∀ ts,ts.length<n→Nz ts.length (pr ts)) (k:Int) (ts:List (Tok Val)) (hn:ts.length<n):Nz (ts.length+1) (pShaped sz n pt pf pr k ts):=by
 unfold pShaped
 refine (nz_if _ _ (fun r=>(nz_name sz r).mono (by omega)) ts).bind fun _ r1 h1=> ?_
 refine (nz_if _ _ (nz_op sz) r1).bind fun _ r2 h2=> ?_
 refine (nz_if _ _ (fun r=>(nz_name sz r).bind fun x r' h=>Nz.ok _ (by omega)) r2).bind fun _ r3 h3=> ?_
 refine (nz_if _ _ (nz_list sz) r3).bind fun _ r4 h4=> ?_
 refine (nz_if _ _ (nz_iv sz) r4).bind fun _ r5 h5=> ?_
 refine (nz_many ht _ _ _ r5 (by omega) (by omega)).bind fun _ r6 h6=> ?_
 refine (nz_many hr _ _ _ r6 (by omega) (by omega)).bind fun _ r7 h7=> ?_
 refine (nz_many hf _ _ _ r7 (by omega) (by omega)).bind fun _ r8 h8=> ?_
 exact Nz.ok _ (by omega)
theorem nz_form {sz n:Nat} {pt:List (Tok Val)→Rd Tm} {pf:List (Tok Val)→Rd Fm} {pr:List (Tok Val)→Rd Rx} (ht:∀ ts,ts.length<n→Nz ts.length (pt ts)) (hf:∀ ts,ts.length<n→Nz ts.length (pf ts)) (hr:∀ ts,ts.length<n→Nz ts.length (pr ts)) (d:Int) (ts:List (Tok Val)) (hn:ts.length<n+1):Nz ts.length (pForm sz n pt pf pr d ts):=by
 unfold pForm
 refine (nz_beg sz d ts).bind fun t r h=> ?_
 split
 ·exact Nz.ok _ h
 ·split
  ·exact Nz.ok _ h
  ·split
   ·have hh:Nz r.length (pHead sz n pt pf pr r):=by
     unfold pHead
     refine (nz_next sz r).bind fun t r2 h2=> ?_
     split
     ·exact (nz_many ht _ _ _ r2 (by omega) (by omega)).bind fun _ r' h'=>Nz.ok _ (by omega)
     ·split
      ·exact Nz.b70 _ _
      ·exact (nz_shaped ht hf hr _ r2 (by omega)).mono (by omega)
    exact hh.bind fun _ r' h'=>(nz_exp sz _ r').bind fun _ r'' h''=>Nz.ok _ (by omega)
   ·exact Nz.b70 _ _
theorem nz_regex {sz n:Nat} {pf:List (Tok Val)→Rd Fm} {pr:List (Tok Val)→Rd Rx} (hf:∀ ts,ts.length<n→Nz ts.length (pf ts)) (hr:∀ ts,ts.length<n→Nz ts.length (pr ts)) (d:Int) (ts:List (Tok Val)) (hn:ts.length<n+1):Nz ts.length (pRegex sz n pf pr d ts):=by
 unfold pRegex
 refine (nz_beg sz d ts).bind fun t r h=> ?_
 split
 ·exact Nz.ok _ h
 ·split
  ·have hh:Nz r.length (pHeadR sz n pf pr r):=by
    unfold pHeadR
    refine (nz_next sz r).bind fun t r2 h2=> ?_
    split
    ·exact (nz_many hf _ _ _ r2 (by omega) (by omega)).bind fun _ r' h'=>Nz.ok _ (by omega)
    ·split
     ·exact (nz_many hr _ _ _ r2 (by omega) (by omega)).bind fun _ r' h'=>Nz.ok _ (by omega)
     ·split
      ·exact (nz_many hr _ _ _ r2 (by omega) (by omega)).bind fun _ r' h'=>Nz.ok _ (by omega)
      ·split
       ·exact (nz_many hr _ _ _ r2 (by omega) (by omega)).bind fun _ r' h'=>Nz.ok _ (by omega)
       ·exact Nz.b70 _ _
   exact hh.bind fun _ r' h'=>(nz_exp sz _ r').bind fun _ r'' h''=>Nz.ok _ (by omega)
  ·exact Nz.b70 _ _
theorem nz_FR (sz:Nat):∀ (n:Nat),(∀ (d:Int) (ts:List (Tok Val)),ts.length<n→Nz ts.length ((pFR sz n).1 d ts))∧(∀ (d:Int) (ts:List (Tok Val)),ts.length<n→Nz ts.length ((pFR sz n).2 d ts))
 | 0=>⟨fun _ _ h=>absurd h (Nat.not_lt_zero _),fun _ _ h=>absurd h (Nat.not_lt_zero _)⟩
 | n+1=>by
  have ih:=nz_FR sz n
  exact ⟨fun d ts h=>nz_form (nz_T sz n _) (ih.1 _) (ih.2 _) d ts h,fun d ts h=>nz_regex (ih.1 _) (ih.2 _) d ts h⟩
theorem nz_all {sz:Nat} {ts:List (Tok Val)} {e a:Int} (h:pAll sz ts=.bad e a):e≠0:=by
 have k:Nz 1 (pAll sz ts):=by
  unfold pAll
  refine ((nz_FR sz (ts.length+1)).1 1 ts (by omega)).bind fun f r hr=> ?_
  cases r with
  | nil=>exact Nz.ok _ (Nat.le_refl _)
  | cons t r=>exact Nz.b70 _ _
 rw [h] at k
 exact k
theorem prs_err {l:List UInt8} {er a:Int} (h:prsP l=(none,er,a)):er≠0:=by
 unfold prsP at h
 split at h
 ·injection h with h1 h2;injection h2 with h2 h3;rw [← h2];decide
 ·split at h
  ·injection h with h1 h2;injection h2 with h2 h3;rw [← h2];decide
  ·split at h
   ·rename_i hp
    injection h with h1 h2;injection h2 with h2 h3;rw [← h2];exact nz_all hp
   ·split at h
    ·injection h with h1 h2;cases h1
    ·rename_i hc
     injection h with h1 h2;injection h2 with h2 h3;rw [← h2];exact hc
theorem prs_fit {l:List UInt8} {f:Fm} {er a:Int} (h:prsP l=(some f,er,a)):chkF f=0∧er=0∧a=0:=by
 unfold prsP at h
 split at h
 ·injection h with h1 h2;cases h1
 ·split at h
  ·injection h with h1 h2;cases h1
  ·split at h
   ·injection h with h1 h2;cases h1
   ·split at h
    ·rename_i hc
     injection h with h1 h2;injection h1 with h1;injection h2 with h2 h3;rw [← h1];exact ⟨hc,h2.symm,h3.symm⟩
    ·injection h with h1 h2;cases h1
theorem prs_again {f:Fm} (hc:chkF f=0) (hf:ftF f) (hl:(txF f).length≤16384):prsP (txF f)=(some f,0,0):=by
 obtain ⟨L,h1,h2⟩:=back_all hc hf (txF f).length
 unfold prsP
 rw [if_neg (by omega),h1]
 dsimp only
 rw [h2]
 dsimp only
 rw [if_pos hc]
theorem parse_some (s:ByteArray) (g:Fm) (w:World) (h:prsP s.data.toList=(some g,0,0)) (ht:Pow w) (he:Errs w) (h8:6≤w.heap.size) (W:World) (hW:Below w.heap.size w W):Calls Tryz.prog 9 #[.string s] W fun e w'=>∃ qv dv qt dt qs ds qr dr,e=.returned (.tuple #[.agg #[.int .i64 g.k,.string g.nm,.int .i64 g.op,.slice qv g.vars.length dv,.slice qt g.terms.length dt,.int .i64 g.lo,.int .i64 g.hi,.bool g.opn,.slice qs g.subs.length ds,.slice qr g.rgx.length dr],.int .i64 0,.int .i64 0])∧QAt w' (g,(⟨.slice qv g.vars.length dv,.slice qt g.terms.length dt,.slice qs g.subs.length ds,.slice qr g.rgx.length dr⟩:FQ))∧Below W.heap.size W w':=by
 refine (parse_syn s W (ht.below hW) (he.below hW h8) (Nat.le_trans h8 hW.size)).mono ?_
 intro e w' hP
 obtain ⟨v,rfl,⟨⟨uv,ut,us,ur⟩,rfl,hQ⟩,hb⟩:=psq_some hP h
 obtain ⟨qv,dv,qt,dt,qs,ds,qr,dr,rfl,rfl,rfl,rfl⟩:=fm_slices hQ.at
 exact ⟨qv,dv,qt,dt,qs,ds,qr,dr,rfl,hQ.at,hb⟩
theorem parse_none (s:ByteArray) (er a:Int) (w:World) (h:prsP s.data.toList=(none,er,a)) (ht:Pow w) (he:Errs w) (h8:6≤w.heap.size) (W:World) (hW:Below w.heap.size w W):Calls Tryz.prog 9 #[.string s] W fun e w'=>e=.returned (.tuple #[zFm,.int .i64 er,.int .i64 a])∧Below W.heap.size W w':=by
 refine (parse_syn s W (ht.below hW) (he.below hW h8) (Nat.le_trans h8 hW.size)).mono ?_
 intro e w' hP
 exact psq_none hP h
theorem back_walk (f:Fm) (q:FQ) (s:ByteArray) (w:World) (hq:QAt w (f,q)) (ht:Pow w) (he:Errs w) (h8:6≤w.heap.size):Calls Tryz.prog 6 #[.agg #[.int .i64 f.k,.string f.nm,.int .i64 f.op,q.v,q.t,.int .i64 f.lo,.int .i64 f.hi,.bool f.opn,q.s,q.r],.string s] w fun e w'=>e=.returned (.bool true)∧Below w.heap.size w w':=by
 have CL:Hid (∀ W:World,Below w.heap.size w W→Calls Tryz.prog 11 #[] W fun e w'=>e=.returned (.bool true)∧Below W.heap.size W w'):=fun W hW=>live_syn W (ht.below hW) (he.below hW h8) (Nat.le_trans h8 hW.size)
 have C1:Hid (∀ W:World,Below w.heap.size w W→Calls Tryz.prog 10 #[.agg #[.int .i64 f.k,.string f.nm,.int .i64 f.op,q.v,q.t,.int .i64 f.lo,.int .i64 f.hi,.bool f.opn,q.s,q.r]] W fun e w'=>e=.returned (.tuple #[.string ⟨(prtP f).toArray⟩,.int .i64 (chkF f)])∧Below W.heap.size W w'):=fun W hW=>print_syn f q W (hq.below hW) (ht.below hW)
 have e1:chkF f=0→prtP f=txF f:=fun h=>by unfold prtP;rw [if_pos h]
 have sz:(⟨(prtP f).toArray⟩:ByteArray).size=(prtP f).length:=by show (prtP f).toArray.size=_;simp
 have CP1:Hid (chkF f=0∧(((⟨(prtP f).toArray⟩:ByteArray).size:Int))≤16384→∀ W:World,Below w.heap.size w W→Calls Tryz.prog 9 #[.string ⟨(prtP f).toArray⟩] W (fun e w'=>∃ qv dv qt dt qs ds qr dr,e=.returned (.tuple #[.agg #[.int .i64 f.k,.string f.nm,.int .i64 f.op,.slice qv f.vars.length dv,.slice qt f.terms.length dt,.int .i64 f.lo,.int .i64 f.hi,.bool f.opn,.slice qs f.subs.length ds,.slice qr f.rgx.length dr],.int .i64 0,.int .i64 0])∧QAt w' (f,(⟨.slice qv f.vars.length dv,.slice qt f.terms.length dt,.slice qs f.subs.length ds,.slice qr f.rgx.length dr⟩:FQ))∧Below W.heap.size W w')):=fun hc W hW=>parse_some _ f w (by rw [e1 hc.1];exact prs_again hc.1 (qat_ft hq) (by have:=hc.2;rw [sz,e1 hc.1] at this;omega)) ht he h8 W hW
 have CS1:Hid (∀ (q':FQ) (W:World),Below w.heap.size w W→QAt W (f,q')→Calls Tryz.prog 14 #[.agg #[.int .i64 f.k,.string f.nm,.int .i64 f.op,q.v,q.t,.int .i64 f.lo,.int .i64 f.hi,.bool f.opn,q.s,q.r],.agg #[.int .i64 f.k,.string f.nm,.int .i64 f.op,q'.v,q'.t,.int .i64 f.lo,.int .i64 f.hi,.bool f.opn,q'.s,q'.r]] W fun e w'=>e=.returned (.bool true)∧Below W.heap.size W w'):=fun q' W hW h2=>by
   have h:=rsame_fm f f q q' W (hq.below hW) h2
   rw [sameF_refl] at h
   exact h
 have HPS:Hid (QAt w (f,q)∧Pow w∧Errs w∧6≤w.heap.size):=⟨hq,ht,he,h8⟩
 clear e1 sz
 obtain ⟨uv,ut,us,ur⟩:=q
 obtain ⟨qv,dv,qt,dt,qs,ds,qr,dr,rfl,rfl,rfl,rfl⟩:=fm_slices hq
 dsimp only at C1 CS1 ⊢
 replace HPS:Hid (Pow w∧Errs w∧6≤w.heap.size):=HPS.out.2
 clear hq ht he h8
 generalize f.k=fk at*
 generalize f.nm=fnm at*
 generalize f.op=fop at*
 generalize f.lo=flo at*
 generalize f.hi=fhi at*
 generalize f.opn=fpn at*
 generalize f.vars.length=mv at*
 generalize f.terms.length=mt at*
 generalize f.subs.length=ms at*
 generalize f.rgx.length=mr at*
 generalize (⟨(prtP f).toArray⟩:ByteArray)=S at*
 generalize chkF f=E at*
 go_enter Tryz.func6,Tryz.ntmps6
 go_upto_region 1 with fail
 refine wp_world ?_
 intro W0 hW0
 have X0:Hid (W0.heap[w.heap.size]? =some (.cells #[.int .i64 fk,.string fnm,.int .i64 fop,.slice qv mv dv,.slice qt mt dt,.int .i64 flo,.int .i64 fhi,.bool fpn,.slice qs ms ds,.slice qr mr dr] 29 (0,0))):=by rw [hW0];exact new_box w _
 have B0:Below w.heap.size w W0:=by rw [hW0];exact (Below.refl _ _).alloc (Nat.le_refl _) _
 clear hW0
 obtain ⟨x0,x1,x2,x3,x4,x5,x6,x7,x8,x9⟩:=bx10 X0.out
 go_wp2_with fail
 refine (C1.out W0 B0).mono ?_
 rintro e w1 ⟨rfl,hb1⟩
 have X1:Hid (w1.heap[w.heap.size]? =_):=(hb1.block _ (lt_heap X0.out)).trans X0.out
 have B1:Below w.heap.size w w1:=B0.trans (hb1.mono B0.size)
 clear hb1 X0 B0 C1 x0 x1 x2 x3 x4 x5 x6 x7 x8 x9
 go_upto_region 2 with fail
 go_cut [29] (fun v29 wx=>wx=w1∧v29=.bool (decide (E=0∧(S.size:Int)≤16384)))
 case first=>
  by_cases hE:E=0
  ·subst hE
   by_cases hz:(S.size:Int)≤16384
   ·go_wp2_with fail
    go_meet
    exact ⟨rfl,by simp [hz]⟩
   ·go_wp2_with fail
    go_meet
    exact ⟨rfl,by simp [hz]⟩
  ·have hn:(E==0)=false:=by simpa using hE
   go_wp2_with fail
   go_meet
   exact ⟨rfl,by simp [hE]⟩
 case rest=>
 obtain ⟨hwc,rfl⟩:=hcut
 subst hwc
 go_upto_if 29 with fail
 go_cut [] (fun wx=>Below w.heap.size w wx)
 case first=>
  by_cases hc:E=0∧(S.size:Int)≤16384
  ·rw [decide_eq_true hc]
   have CPP:=CP1.out hc
   obtain ⟨rfl,hz⟩:=hc
   have CPQ:Hid (∀ W:World,Below w.heap.size w W→_):=CPP
   clear CPP CP1 hz
   go_wp2_with fail
   refine (CPQ.out wc B1).mono ?_
   rintro e w2 ⟨qv1,dv1,qt1,dt1,qs1,ds1,qr1,dr1,rfl,hQ2,hb2⟩
   have X2:Hid (w2.heap[w.heap.size]? =_):=(hb2.block _ (lt_heap X1.out)).trans X1.out
   have B2:Below w.heap.size w w2:=B1.trans (hb2.mono B1.size)
   have Q2:Hid (QAt w2 (f,(⟨.slice qv1 mv dv1,.slice qt1 mt dt1,.slice qs1 ms ds1,.slice qr1 mr dr1⟩:FQ))):=hQ2
   clear hb2 hQ2 X1 B1 CPQ
   go_upto_region 4 with fail
   refine wp_world ?_
   intro W3 hW3
   have b23:Below w2.heap.size w2 W3:=by rw [hW3];exact (Below.refl _ _).alloc (Nat.le_refl _) _
   have Y3:Hid (W3.heap[w2.heap.size]? =some (.cells #[.int .i64 fk,.string fnm,.int .i64 fop,.slice qv1 mv dv1,.slice qt1 mt dt1,.int .i64 flo,.int .i64 fhi,.bool fpn,.slice qs1 ms ds1,.slice qr1 mr dr1] 29 (0,0))):=by rw [hW3];exact new_box w2 _
   have X3:Hid (W3.heap[w.heap.size]? =_):=(b23.block _ (lt_heap X2.out)).trans X2.out
   have B3:Below w.heap.size w W3:=B2.trans (b23.mono B2.size)
   have Q3:Hid (QAt W3 (f,(⟨.slice qv1 mv dv1,.slice qt1 mt dt1,.slice qs1 ms ds1,.slice qr1 mr dr1⟩:FQ))):=Q2.out.below b23
   clear hW3 b23 Q2 X2 B2
   generalize w2.heap.size=g1 at*
   obtain ⟨x0,x1,x2,x3,x4,x5,x6,x7,x8,x9⟩:=bx10 X3.out
   obtain ⟨y0,y1,y2,y3,y4,y5,y6,y7,y8,y9⟩:=bx10 Y3.out
   go_wp2_with fail
   refine (CS1.out _ W3 B3 Q3.out).mono ?_
   rintro e w4 ⟨rfl,hb4⟩
   have B4:Below w.heap.size w w4:=B3.trans (hb4.mono B3.size)
   clear hb4 X3 Y3 Q3 B3 CS1 x0 x1 x2 x3 x4 x5 x6 x7 x8 x9 y0 y1 y2 y3 y4 y5 y6 y7 y8 y9
   go_wp2_with fail
   go_meet
   exact B4
  ·rw [decide_eq_false hc]
   go_wp2_with fail
   go_meet
   exact B1
 case rest=>
 have Bc:Below w.heap.size w _:=hcut
 obtain ⟨ht,he,h8⟩:=HPS.out
 clear CP1 CS1 X1 B1 HPS
 rcases hp:prsP s.data.toList with ⟨_ | g,er,a⟩
 ·have her:(er != 0)=true:=by simpa using prs_err hp
  have CP2:Hid (∀ W:World,Below w.heap.size w W→Calls Tryz.prog 9 #[.string s] W fun e w'=>e=.returned (.tuple #[zFm,.int .i64 er,.int .i64 a])∧Below W.heap.size W w'):=fun W hW=>parse_none s er a w hp ht he h8 W hW
  clear hp ht he
  go_wp2_with fail
  refine (CP2.out wc Bc).mono ?_
  rintro e w5 ⟨rfl,hb5⟩
  have B5:Below w.heap.size w w5:=Bc.trans (hb5.mono Bc.size)
  clear hb5 Bc CP2
  unfold zFm
  go_upto_region 7 with fail
  refine wp_world ?_
  intro W6 hW6
  have b56:Below w5.heap.size w5 W6:=by rw [hW6];exact (Below.refl _ _).alloc (Nat.le_refl _) _
  have X6:Hid (W6.heap[w5.heap.size]? =some (.cells #[.int .i64 0,.string ⟨#[]⟩,.int .i64 0,.slice none 0 0,.slice none 0 0,.int .i64 0,.int .i64 0,.bool false,.slice none 0 0,.slice none 0 0] 29 (0,0))):=by rw [hW6];exact new_box w5 _
  have B6:Below w.heap.size w W6:=B5.trans (b56.mono B5.size)
  clear hW6 b56 B5
  generalize w5.heap.size=g5 at*
  go_wp2_with fail
  refine (CL.out W6 B6).mono ?_
  rintro e w7 ⟨rfl,hb7⟩
  have X7:Hid (w7.heap[g5]? =_):=(hb7.block _ (lt_heap X6.out)).trans X6.out
  have B7:Below w.heap.size w w7:=B6.trans (hb7.mono B6.size)
  clear hb7 X6 B6
  obtain ⟨x0,x1,x2,x3,x4,x5,x6,x7,x8,x9⟩:=bx10 X7.out
  go_wp2
  go_ret
  exact ⟨rfl,B7⟩
 ·obtain ⟨hg,rfl,rfl⟩:=prs_fit hp
  have e2:prtP g=txF g:=by unfold prtP;rw [if_pos hg]
  have CP2:Hid (∀ W:World,Below w.heap.size w W→Calls Tryz.prog 9 #[.string s] W (fun e w'=>∃ qv dv qt dt qs ds qr dr,e=.returned (.tuple #[.agg #[.int .i64 g.k,.string g.nm,.int .i64 g.op,.slice qv g.vars.length dv,.slice qt g.terms.length dt,.int .i64 g.lo,.int .i64 g.hi,.bool g.opn,.slice qs g.subs.length ds,.slice qr g.rgx.length dr],.int .i64 0,.int .i64 0])∧QAt w' (g,(⟨.slice qv g.vars.length dv,.slice qt g.terms.length dt,.slice qs g.subs.length ds,.slice qr g.rgx.length dr⟩:FQ))∧Below W.heap.size W w')):=fun W hW=>parse_some s g w hp ht he h8 W hW
  have C2:Hid (∀ (q':FQ) (W:World),Below w.heap.size w W→QAt W (g,q')→Calls Tryz.prog 10 #[.agg #[.int .i64 g.k,.string g.nm,.int .i64 g.op,q'.v,q'.t,.int .i64 g.lo,.int .i64 g.hi,.bool g.opn,q'.s,q'.r]] W fun e w'=>e=.returned (.tuple #[.string ⟨(txF g).toArray⟩,.int .i64 0])∧Below W.heap.size W w'):=fun q' W hW h=>by
    have h:=print_syn g q' W h (ht.below hW)
    rw [e2,hg] at h
    exact h
  have szU:(⟨(txF g).toArray⟩:ByteArray).size=(txF g).length:=by show (txF g).toArray.size=_;simp
  have CP3:Hid (ftF g→¬ (16384:Int)<(((⟨(txF g).toArray⟩:ByteArray).size:Int))→∀ W:World,Below w.heap.size w W→Calls Tryz.prog 9 #[.string ⟨(txF g).toArray⟩] W (fun e w'=>∃ qv dv qt dt qs ds qr dr,e=.returned (.tuple #[.agg #[.int .i64 g.k,.string g.nm,.int .i64 g.op,.slice qv g.vars.length dv,.slice qt g.terms.length dt,.int .i64 g.lo,.int .i64 g.hi,.bool g.opn,.slice qs g.subs.length ds,.slice qr g.rgx.length dr],.int .i64 0,.int .i64 0])∧QAt w' (g,(⟨.slice qv g.vars.length dv,.slice qt g.terms.length dt,.slice qs g.subs.length ds,.slice qr g.rgx.length dr⟩:FQ))∧Below W.heap.size W w')):=fun hf hU W hW=>parse_some _ g w (prs_again hg hf (by rw [szU] at hU;omega)) ht he h8 W hW
  have CS2:Hid (∀ (q' q'':FQ) (W:World),Below w.heap.size w W→QAt W (g,q')→QAt W (g,q'')→Calls Tryz.prog 14 #[.agg #[.int .i64 g.k,.string g.nm,.int .i64 g.op,q'.v,q'.t,.int .i64 g.lo,.int .i64 g.hi,.bool g.opn,q'.s,q'.r],.agg #[.int .i64 g.k,.string g.nm,.int .i64 g.op,q''.v,q''.t,.int .i64 g.lo,.int .i64 g.hi,.bool g.opn,q''.s,q''.r]] W fun e w'=>e=.returned (.bool true)∧Below W.heap.size W w'):=fun q' q'' W _ h1 h2=>by
    have h:=rsame_fm g g q' q'' W h1 h2
    rw [sameF_refl] at h
    exact h
  clear hp hg e2 ht he szU
  generalize g.k=gk at*
  generalize g.nm=gnm at*
  generalize g.op=gop at*
  generalize g.lo=glo at*
  generalize g.hi=ghi at*
  generalize g.opn=gpn at*
  generalize g.vars.length=nv at*
  generalize g.terms.length=nt at*
  generalize g.subs.length=ns at*
  generalize g.rgx.length=nr at*
  generalize (⟨(txF g).toArray⟩:ByteArray)=U at*
  go_wp2_with fail
  refine (CP2.out wc Bc).mono ?_
  rintro e w5 ⟨qv5,dv5,qt5,dt5,qs5,ds5,qr5,dr5,rfl,hQ5,hb5⟩
  have B5:Below w.heap.size w w5:=Bc.trans (hb5.mono Bc.size)
  have Q5:Hid (QAt w5 (g,(⟨.slice qv5 nv dv5,.slice qt5 nt dt5,.slice qs5 ns ds5,.slice qr5 nr dr5⟩:FQ))):=hQ5
  clear hb5 hQ5 Bc CP2
  go_upto_region 7 with fail
  refine wp_world ?_
  intro W6 hW6
  have b56:Below w5.heap.size w5 W6:=by rw [hW6];exact (Below.refl _ _).alloc (Nat.le_refl _) _
  have X6:Hid (W6.heap[w5.heap.size]? =some (.cells #[.int .i64 gk,.string gnm,.int .i64 gop,.slice qv5 nv dv5,.slice qt5 nt dt5,.int .i64 glo,.int .i64 ghi,.bool gpn,.slice qs5 ns ds5,.slice qr5 nr dr5] 29 (0,0))):=by rw [hW6];exact new_box w5 _
  have Q6:Hid (QAt W6 (g,(⟨.slice qv5 nv dv5,.slice qt5 nt dt5,.slice qs5 ns ds5,.slice qr5 nr dr5⟩:FQ))):=Q5.out.below b56
  have B6:Below w.heap.size w W6:=B5.trans (b56.mono B5.size)
  clear hW6 b56 B5 Q5
  generalize w5.heap.size=g5 at*
  obtain ⟨x0,x1,x2,x3,x4,x5,x6,x7,x8,x9⟩:=bx10 X6.out
  go_wp2_with fail
  refine (C2.out _ W6 B6 Q6.out).mono ?_
  rintro e w7 ⟨rfl,hb7⟩
  have X7:Hid (w7.heap[g5]? =_):=(hb7.block _ (lt_heap X6.out)).trans X6.out
  have B7:Below w.heap.size w w7:=B6.trans (hb7.mono B6.size)
  have Q7:Hid (QAt w7 (g,(⟨.slice qv5 nv dv5,.slice qt5 nt dt5,.slice qs5 ns ds5,.slice qr5 nr dr5⟩:FQ))):=Q6.out.below hb7
  clear hb7 X6 B6 Q6 C2 x0 x1 x2 x3 x4 x5 x6 x7 x8 x9
  by_cases hu:(16384:Int)<(U.size:Int)
  ·go_wp2_with fail
   refine (CL.out w7 B7).mono ?_
   rintro e w8 ⟨rfl,hb8⟩
   go_wp2
   go_ret
   exact ⟨rfl,B7.trans (hb8.mono B7.size)⟩
  ·go_wp2_with fail
   refine (CP3.out (qat_ft Q7.out) hu w7 B7).mono ?_
   rintro e w8 ⟨qv8,dv8,qt8,dt8,qs8,ds8,qr8,dr8,rfl,hQ8,hb8⟩
   have X8:Hid (w8.heap[g5]? =_):=(hb8.block _ (lt_heap X7.out)).trans X7.out
   have B8:Below w.heap.size w w8:=B7.trans (hb8.mono B7.size)
   have Q8:Hid (QAt w8 (g,(⟨.slice qv5 nv dv5,.slice qt5 nt dt5,.slice qs5 ns ds5,.slice qr5 nr dr5⟩:FQ))):=Q7.out.below hb8
   have R8:Hid (QAt w8 (g,(⟨.slice qv8 nv dv8,.slice qt8 nt dt8,.slice qs8 ns ds8,.slice qr8 nr dr8⟩:FQ))):=hQ8
   clear hb8 hQ8 X7 B7 Q7 CP3
   go_upto_region 15 with fail
   refine wp_world ?_
   intro W9 hW9
   have b89:Below w8.heap.size w8 W9:=by rw [hW9];exact (Below.refl _ _).alloc (Nat.le_refl _) _
   have Y9:Hid (W9.heap[w8.heap.size]? =some (.cells #[.int .i64 gk,.string gnm,.int .i64 gop,.slice qv8 nv dv8,.slice qt8 nt dt8,.int .i64 glo,.int .i64 ghi,.bool gpn,.slice qs8 ns ds8,.slice qr8 nr dr8] 29 (0,0))):=by rw [hW9];exact new_box w8 _
   have X9:Hid (W9.heap[g5]? =_):=(b89.block _ (lt_heap X8.out)).trans X8.out
   have B9:Below w.heap.size w W9:=B8.trans (b89.mono B8.size)
   have Q9:Hid (QAt W9 (g,(⟨.slice qv5 nv dv5,.slice qt5 nt dt5,.slice qs5 ns ds5,.slice qr5 nr dr5⟩:FQ))):=Q8.out.below b89
   have R9:Hid (QAt W9 (g,(⟨.slice qv8 nv dv8,.slice qt8 nt dt8,.slice qs8 ns ds8,.slice qr8 nr dr8⟩:FQ))):=R8.out.below b89
   clear hW9 b89 X8 B8 Q8 R8
   generalize w8.heap.size=g8 at*
   go_wp2_with fail
   refine (CL.out W9 B9).mono ?_
   rintro e w10 ⟨rfl,hb10⟩
   have X10:Hid (w10.heap[g5]? =_):=(hb10.block _ (lt_heap X9.out)).trans X9.out
   have Y10:Hid (w10.heap[g8]? =_):=(hb10.block _ (lt_heap Y9.out)).trans Y9.out
   have B10:Below w.heap.size w w10:=B9.trans (hb10.mono B9.size)
   have Q10:Hid (QAt w10 (g,(⟨.slice qv5 nv dv5,.slice qt5 nt dt5,.slice qs5 ns ds5,.slice qr5 nr dr5⟩:FQ))):=Q9.out.below hb10
   have R10:Hid (QAt w10 (g,(⟨.slice qv8 nv dv8,.slice qt8 nt dt8,.slice qs8 ns ds8,.slice qr8 nr dr8⟩:FQ))):=R9.out.below hb10
   clear hb10 X9 Y9 B9 Q9 R9
   obtain ⟨x0,x1,x2,x3,x4,x5,x6,x7,x8,x9⟩:=bx10 X10.out
   obtain ⟨y0,y1,y2,y3,y4,y5,y6,y7,y8,y9⟩:=bx10 Y10.out
   go_wp2_with fail
   refine (CS2.out _ _ w10 B10 R10.out Q10.out).mono ?_
   rintro e w11 ⟨rfl,hb11⟩
   clear x0 x1 x2 x3 x4 x5 x6 x7 x8 x9 y0 y1 y2 y3 y4 y5 y6 y7 y8 y9 X10 Y10
   go_wp2
   go_ret
   exact ⟨rfl,B10.trans (hb11.mono B10.size)⟩
end Go.Proofs.YticnfeolbfmgfaaGreatDoor
