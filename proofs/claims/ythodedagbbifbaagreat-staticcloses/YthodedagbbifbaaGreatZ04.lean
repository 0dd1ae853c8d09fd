/- What the claims of this seat share: base. -/
import Derived.Test.YthodedagbbifbaaGreatZ03
import Derived.Calls
import Derived.Below
import Derived.Sort.Grow
import Derived.Lib.QuietBelow
import Derived.RowKit
import Derived.Lib.AppendIntMem
import Derived.Shelf.SlSortCmp.QuietGrown
import Derived.Deep.LoopGhost
import Derived.Deep.WholeRow
import Derived.Deep.MidRow
import Derived.Deep.DeepCutAuto
set_option maxRecDepth 100000
set_option maxHeartbeats 16000000
namespace Go.Proofs.YthodedagbbifbaaGreat
open Go.RowKit LX Go.Shelf
set_option linter.unusedVariables false
structure Fx where
 vars:List ByteArray
 acc:Bool
 reach:Int
 bare:List ByteArray
inductive Pt where
 | fx (x:Fx)
 | neg (x:Fx) (o:Pt)
 | cmp (x:Fx) (k:Int) (a b:Tm)
def Pt.about:Pt→Fx
 | .fx x=>x
 | .neg x _=>x
 | .cmp x _ _ _=>x
def amg (xs ys:List ByteArray):Bool:=xs.all fun s=>Lib.containsS ys s
def tvN (t:Tm):List ByteArray:=uniN [tvs t]
def fixT (t:Tm):Bool:=(tvN t).isEmpty
def setT (vars:List ByteArray) (x t:Tm):Bool:=decide (x.k=1) && (!Lib.containsS vars x.nm && amg (tvN t) vars)
def under:Pt→Pt×Bool
 | .neg _ o=>(o,true)
 | .fx x=>(.fx x,false)
 | .cmp x k a b=>(.cmp x k a b,false)
def isCmp:Pt→Bool
 | .cmp _ _ _ _=>true
 | _=>false
def caseP (g h:Pt):Int:=
 if g.about.acc=false then 0 else if h.about.acc then 1 else
 match h with
 | .neg x o=>if amg x.vars g.about.vars && o.about.acc then 2 else if isCmp o && amg x.vars g.about.vars then 3 else 0
 | .cmp x k a b=>if amg x.vars g.about.vars then 3 else if decide (k=4) && (setT g.about.vars a b || setT g.about.vars b a) then 4 else 0
 | .fx _=>0
def accP (l:List Pt):Bool:=l.all fun p=>p.about.acc
def farP (l:List Pt):Int:=l.foldl (fun r p=>max r p.about.reach) 0
def varsP (l:List Pt):List ByteArray:=uniN [(l.map fun p=>p.about.vars).flatten]
def bareP (l:List Pt):List ByteArray:=uniN [(l.map fun p=>p.about.bare).flatten]
def heldP (g h:Pt):Bool:=(under g).1.about.acc && (h.about.acc && amg (under g).1.about.vars h.about.vars)
def posP (l:List Pt):List Pt:=l.takeWhile fun p=> !(under p).2
def negP (l:List Pt):List Pt:=l.dropWhile fun p=> !(under p).2
def joinP (l:List Pt):Bool:=(negP l).all (fun h=>(under h).2 && ((under h).1.about.acc && amg (under h).1.about.vars (varsP (posP l)))) && (!(posP l).isEmpty && accP (posP l))
def listP (vs:List ByteArray) (g:Pt):Bool:=decide (vs.length=g.about.vars.length) && amg vs g.about.vars
section
mutual
def rckT:Tm→Bool
 | .mk k _ _ subs=>decide (k=3∨k=4∨k=5) || rckTs subs
def rckTs:List Tm→Bool
 | []=>false
 | t::l=>rckT t || rckTs l
end
end
def ptN (l:List Pt) (n:Nat):Pt:=l.getD n (.fx ⟨[],false,0,[]⟩)
def tmN (l:List Tm) (n:Nat):Tm:=l.getD n (.mk 0 ⟨#[]⟩ ⟨0,0,0,⟨#[]⟩⟩ [])
def fitP (f:Fm) (l:List Pt):Bool:=
 if f.k=3 then !rckTs f.terms
 else if f.k=4 then (fixT (tmN f.terms 1) && (fixT (tmN f.terms 0) || decide ((tmN f.terms 0).k=1))) || (fixT (tmN f.terms 0) && decide ((tmN f.terms 1).k=1))
 else if f.k=5∨f.k=6 then fixT (tmN f.terms 0) && fixT (tmN f.terms 1)
 else if f.k=7 then (ptN l 0).about.vars.isEmpty
 else if f.k=9 then decide ((ptN l 0).about.vars=(ptN l 1).about.vars)
 else if f.k=10∨f.k=19 then amg f.vars (ptN l 0).about.vars
 else if f.k=12∨f.k=14∨f.k=18 then !f.opn
 else if f.k=20 then listP f.vars (ptN l 0)
 else if f.k=21 then listP f.vars (ptN l 0) && (!Lib.containsS (ptN l 0).about.bare f.nm && decide ((ptN l 0).about.reach=0))
 else true
def isAccP (f:Fm) (l:List Pt):Bool:=
 if f.k=8 then decide (caseP (ptN l 0) (ptN l 1)≠0)
 else if f.k=15 then heldP (ptN l 0) (ptN l 1)
 else if f.k=16 then heldP (ptN l 0) (ptN l 1) && !f.opn
 else if f.k=22 then joinP l
 else accP l && fitP f l
abbrev Env:=List (ByteArray×Int)
def rchOf:Env→ByteArray→Int
 | [],_=>0
 | (n,r)::e,x=>if n=x then r else rchOf e x
def rchIn (e:Env) (f:Fm) (l:List Pt):Int:=
 if f.k=3 then rchOf e f.nm
 else if f.k=12∨f.k=14∨f.k=16∨f.k=18 then f.hi+farP l
 else if f.k=20∨f.k=21 then (ptN l 1).about.reach
 else farP l
def butN (l:List ByteArray) (x:ByteArray):List ByteArray:=l.filter fun s=>decide (s≠x)
def barIn (f:Fm) (l:List Pt):List ByteArray:=
 if f.k=3 then [f.nm]
 else if f.k=11 then []
 else if f.k=20 then uniN [(ptN l 0).about.bare,butN (ptN l 1).about.bare f.nm]
 else if f.k=21 then butN (bareP l) f.nm
 else bareP l
def mkP (e:Env) (f:Fm) (l:List Pt):Pt:=
 if f.k=7 then .neg ⟨varF f,isAccP f l,rchIn e f l,barIn f l⟩ (ptN l 0)
 else if f.k=4∨f.k=5∨f.k=6 then .cmp ⟨varF f,isAccP f l,rchIn e f l,barIn f l⟩ f.k (tmN f.terms 0) (tmN f.terms 1)
 else .fx ⟨varF f,isAccP f l,rchIn e f l,barIn f l⟩
def mkR (k:Int) (l:List Pt):Fx:=
 ⟨varsP l,accP l && (if k=3 then decide ((ptN l 0).about.vars=(ptN l 1).about.vars) else if k=5 then (varsP l).isEmpty else true),farP l,bareP l⟩
section
mutual
def prtF:Fm→Env→Pt
 | .mk k nm op vars terms lo hi opn subs rgx,e=>mkP e (.mk k nm op vars terms lo hi opn subs rgx) (if k=20 then letF subs nm e else prtRs rgx (if k=21 then (nm,0)::e else e)++prtFs subs (if k=21 then (nm,0)::e else e))
def letF:List Fm→ByteArray→Env→List Pt
 | [],_,_=>[]
 | f::l,nm,e=>prtF f e::prtFs l ((nm,(prtF f e).about.reach)::e)
def prtFs:List Fm→Env→List Pt
 | [],_=>[]
 | f::l,e=>prtF f e::prtFs l e
def prtR:Rx→Env→Fx
 | .mk k test subs,e=>mkR k (prtFs test e++prtRs subs e)
def prtRs:List Rx→Env→List Pt
 | [],_=>[]
 | r::l,e=>.fx (prtR r e)::prtRs l e
end
end
theorem prtF_eq (f:Fm) (e:Env):prtF f e=mkP e f (if f.k=20 then letF f.subs f.nm e else prtRs f.rgx (if f.k=21 then (f.nm,0)::e else e)++prtFs f.subs (if f.k=21 then (f.nm,0)::e else e)):=by
 cases f;rw [prtF];rfl
theorem prtR_eq (r:Rx) (e:Env):prtR r e=mkR r.k (prtFs r.test e++prtRs r.subs e):=by
 cases r;rw [prtR];rfl
theorem prtFs_map:∀ (l:List Fm) (e:Env),prtFs l e=l.map fun f=>prtF f e
 | [],e=>by rw [prtFs];rfl
 | f::l,e=>by rw [prtFs,prtFs_map l e];rfl
theorem prtRs_map:∀ (l:List Rx) (e:Env),prtRs l e=l.map fun r=>Pt.fx (prtR r e)
 | [],e=>by rw [prtRs];rfl
 | r::l,e=>by rw [prtRs,prtRs_map l e];rfl
def stE (f:Fm):Int:=if chkF f=0 then (if (prtF f []).about.acc then 0 else 100) else chkF f
def stR (f:Fm):Int:=if stE f=0 then (prtF f []).about.reach else 0
def andF (g h:Fm):Fm:=.mk 8 ⟨#[]⟩ 0 [] [] 0 0 false [g,h] []
def stC (g h:Fm):Int:=if chkF (andF g h)=0 then caseP (prtF g []) (prtF h []) else 0
theorem caseP_acc {g h:Pt} (hc:caseP g h≠0):g.about.acc=true:=by
 cases ha:g.about.acc with
 | true=>rfl
 | false=>exact absurd (by unfold caseP;rw [ha];rfl) hc
theorem caseP_pos (g h:Pt):0≤caseP g h:=by
 unfold caseP
 repeat' split
 all_goals decide
theorem pts_and (g h:Fm):ptsF (andF g h)=[g,h]:=rfl
theorem and_chk {g h:Fm} (hc:chkF (andF g h)=0):chkF g=0∧chkF h=0:=
 ⟨(part_chk hc (i:=0) (by rw [pts_and];simp)).1,(part_chk hc (i:=1) (by rw [pts_and];simp)).1⟩
theorem prt_and (g h:Fm):prtF (andF g h) []=mkP [] (andF g h) [prtF g [],prtF h []]:=by
 rw [prtF_eq]
 show mkP [] (andF g h) (prtRs [] []++prtFs [g,h] [])=_
 rw [prtRs,prtFs,prtFs,prtFs]
 rfl
theorem and_law {g h:Fm} (hc:chkF (andF g h)=0):decide (stE (andF g h)=0)=(decide (stE g=0) && decide (0<stC g h)):=by
 have e1:(prtF (andF g h) []).about.acc=decide (caseP (prtF g []) (prtF h [])≠0):=by rw [prt_and];rfl
 obtain ⟨cg,ch⟩:=and_chk hc
 unfold stE stC
 rw [if_pos hc,if_pos cg,if_pos hc,e1]
 by_cases h0:caseP (prtF g []) (prtF h [])=0
 ·rw [h0];simp
 ·have h1:=caseP_acc h0
  have h2:=caseP_pos (prtF g []) (prtF h [])
  rw [h1]
  simp [h0]
  omega
theorem fm_prts {f:Fm} (h:fmE f=0):itvB f.lo f.hi f.opn (frm f.k).iv=true:=by
 unfold fmE at h
 by_cases h1:f.k<1∨22<f.k
 ·rw [if_pos h1] at h;simp at h
 rw [if_neg h1] at h
 by_cases h2:manyB f.k f.vars.length f.terms.length=true
 ·rw [if_pos h2] at h;simp at h
 rw [if_neg h2] at h
 by_cases h3:formedM (frm f.k) f.op f.lo f.hi f.nm f.opn f.vars f.terms.length f.subs.length f.rgx.length=false
 ·rw [if_pos h3] at h;simp at h
 have h4:formedM (frm f.k) f.op f.lo f.hi f.nm f.opn f.vars f.terms.length f.subs.length f.rgx.length=true:=by
  cases h5:formedM (frm f.k) f.op f.lo f.hi f.nm f.opn f.vars f.terms.length f.subs.length f.rgx.length with
  | false=>exact absurd h5 h3
  | true=>rfl
 unfold formedM at h4
 rw [Bool.and_eq_true,Bool.and_eq_true,Bool.and_eq_true,Bool.and_eq_true,Bool.and_eq_true,Bool.and_eq_true,Bool.and_eq_true] at h4
 exact h4.2.2.2.2.2.2.2
theorem itvU_fct {lo hi:Int} {o:Bool} (h:itvU lo hi o=true):0≤hi∧hi≤1099511627776:=by
 unfold itvU at h
 by_cases h1:lo<0∨1099511627776<lo
 ·rw [if_pos h1] at h;cases h
 rw [if_neg h1] at h
 cases o with
 | true=>have:hi=0:=by simpa using h
         omega
 | false=>have:lo≤hi∧hi≤1099511627776:=by simpa using h
          omega
theorem hi_rng {f:Fm} (h:fmE f=0) (hk:f.k=12∨f.k=14∨f.k=16∨f.k=18):0≤f.hi∧f.hi≤1099511627776:=by
 have p:=fm_prts h
 have e:(frm f.k).iv=true:=by rcases hk with h | h | h | h<;>rw [h]<;>rfl
 rw [e] at p
 exact itvU_fct p
theorem nodFs_in:∀ {l:List Fm},∀ t∈l,nodF t≤nodFs l
 | f::l,t,h=>by
  rw [nodFs_cons]
  rcases List.mem_cons.1 h with rfl | h
  ·omega
  ·have:=nodFs_in t h;omega
theorem nodRs_in:∀ {l:List Rx},∀ t∈l,nodR t≤nodRs l
 | f::l,t,h=>by
  rw [nodRs_cons]
  rcases List.mem_cons.1 h with rfl | h
  ·omega
  ·have:=nodRs_in t h;omega
theorem wfFs_in:∀ {l:List Fm},wfFs l→∀ t∈l,wfF t
 | f::l,h,t,ht=>by
  rw [wfFs_cons] at h
  rcases List.mem_cons.1 ht with rfl | ht
  ·exact h.1
  ·exact wfFs_in h.2 t ht
theorem wfRs_in:∀ {l:List Rx},wfRs l→∀ t∈l,wfR t
 | f::l,h,t,ht=>by
  rw [wfRs_cons] at h
  rcases List.mem_cons.1 ht with rfl | ht
  ·exact h.1
  ·exact wfRs_in h.2 t ht
theorem mkP_about (e:Env) (f:Fm) (l:List Pt):(mkP e f l).about=⟨varF f,isAccP f l,rchIn e f l,barIn f l⟩:=by
 unfold mkP
 split
 ·rfl
 ·split<;>rfl
theorem far_from (B:Int):∀ (l:List Pt) (r:Int),0≤r→r≤B→(∀ p∈l,p.about.reach≤B)→0≤l.foldl (fun r p=>max r p.about.reach) r∧l.foldl (fun r p=>max r p.about.reach) r≤B
 | [],r,h0,h1,_=>⟨h0,h1⟩
 | p::l,r,h0,h1,h=>by
  have:=h p (by simp)
  exact far_from B l (max r p.about.reach) (by omega) (by omega) (fun q hq=>h q (by simp [hq]))
theorem far_bd {l:List Pt} {B:Int} (hB:0≤B) (h:∀ p∈l,p.about.reach≤B):0≤farP l∧farP l≤B:=far_from B l 0 (by omega) hB h
def EnvB (M:Int) (e:Env):Prop:=∀ x∈e,0≤x.2∧x.2≤M
theorem rchOf_bd {M:Int} (hM:0≤M):∀ {e:Env},EnvB M e→∀ x,0≤rchOf e x∧rchOf e x≤M
 | [],_,x=>⟨Int.le_refl _,hM⟩
 | (n,r)::e,h,x=>by
  unfold rchOf
  split
  ·exact h (n,r) (by simp)
  ·exact rchOf_bd hM (fun y hy=>h y (by simp [hy])) x
theorem ptN_bd {l:List Pt} {B:Int} (hB:0≤B) (h:∀ p∈l,0≤p.about.reach∧p.about.reach≤B) (n:Nat):0≤(ptN l n).about.reach∧(ptN l n).about.reach≤B:=by
 unfold ptN
 rw [List.getD_eq_getElem?_getD]
 cases hg:l[n]? with
 | none=>exact ⟨Int.le_refl _,hB⟩
 | some p=>exact h p (List.mem_of_getElem? hg)
theorem rch_bd:∀ n:Nat,(∀ (f:Fm) (e:Env) (M:Int),nodF f≤n→wfF f→0≤M→EnvB M e→0≤(prtF f e).about.reach∧(prtF f e).about.reach≤M+1099511627776*(nodF f:Int))∧(∀ (r:Rx) (e:Env) (M:Int),nodR r≤n→wfR r→0≤M→EnvB M e→0≤(prtR r e).reach∧(prtR r e).reach≤M+1099511627776*(nodR r:Int)):=by
 intro n
 induction n with
 | zero=>exact ⟨fun f e M h=>by rw [nodF_eq] at h;omega,fun r e M h=>by rw [nodR_eq] at h;omega⟩
 | succ n ih=>
  have pF:∀ (l:List Fm) (e:Env) (M:Int),nodFs l≤n→wfFs l→0≤M→EnvB M e→∀ p∈prtFs l e,0≤p.about.reach∧p.about.reach≤M+1099511627776*(nodFs l:Int):=fun l e M hn hw hM he p hp=>by
   rw [prtFs_map] at hp
   obtain ⟨g,hg,rfl⟩:=List.mem_map.1 hp
   have hm:=nodFs_in g hg
   have h:=ih.1 g e M (by omega) (wfFs_in hw g hg) hM he
   exact ⟨h.1,by omega⟩
  have pR:∀ (l:List Rx) (e:Env) (M:Int),nodRs l≤n→wfRs l→0≤M→EnvB M e→∀ p∈prtRs l e,0≤p.about.reach∧p.about.reach≤M+1099511627776*(nodRs l:Int):=fun l e M hn hw hM he p hp=>by
   rw [prtRs_map] at hp
   obtain ⟨g,hg,rfl⟩:=List.mem_map.1 hp
   have hm:=nodRs_in g hg
   have h:=ih.2 g e M (by omega) (wfRs_in hw g hg) hM he
   exact ⟨h.1,by show (prtR g e).reach≤_;omega⟩
  constructor
  ·intro f e M hn hw hM he
   rw [nodF_eq] at hn
   rw [wfF_eq] at hw
   obtain ⟨hE,hwt,hwr,hws⟩:=hw
   have hN:(nodF f:Int)=1+nodTs f.terms+nodRs f.rgx+nodFs f.subs:=by rw [nodF_eq];omega
   rw [prtF_eq,mkP_about]
   show 0≤rchIn e f _∧rchIn e f _≤_
   by_cases h20:f.k=20
   ·rw [if_pos h20]
    unfold rchIn
    rw [if_neg (by omega),if_neg (by omega),if_pos (Or.inl h20)]
    cases hs:f.subs with
    | nil=>rw [letF];exact ⟨Int.le_refl _,by show (0:Int)≤_;omega⟩
    | cons g l=>
     rw [letF]
     rw [hs,nodFs_cons] at hn
     rw [hs,nodFs_cons] at hN
     rw [hs,wfFs_cons] at hws
     have hg:=ih.1 g e M (by omega) hws.1 hM he
     have h2:=pF l ((f.nm,(prtF g e).about.reach)::e) (M+1099511627776*(nodF g:Int)) (by omega) hws.2 (by omega) (fun x hx=>by
      rcases List.mem_cons.1 hx with rfl | hx
      ·exact hg
      ·have:=he x hx;omega)
     have h3:=ptN_bd (l:=prtF g e::prtFs l ((f.nm,(prtF g e).about.reach)::e)) (B:=M+1099511627776*(nodF f:Int)) (by omega) (fun p hp=>by
      rcases List.mem_cons.1 hp with rfl | hp
      ·exact ⟨hg.1,by omega⟩
      ·have:=h2 p hp;exact ⟨this.1,by omega⟩) 1
     exact h3
   ·rw [if_neg h20]
    obtain ⟨e',he'⟩:∃ e',(if f.k=21 then (f.nm,0)::e else e)=e':=⟨_,rfl⟩
    have hE':EnvB M e':=by
     rw [← he']
     split
     ·intro x hx
      rcases List.mem_cons.1 hx with rfl | hx
      ·exact ⟨Int.le_refl _,hM⟩
      ·exact he x hx
     ·exact he
    rw [he']
    have hall:∀ p∈prtRs f.rgx e'++prtFs f.subs e',0≤p.about.reach∧p.about.reach≤M+1099511627776*((nodRs f.rgx:Int)+nodFs f.subs):=fun p hp=>by
     rcases List.mem_append.1 hp with hp | hp
     ·have:=pR f.rgx e' M (by omega) hwr hM hE' p hp;exact ⟨this.1,by omega⟩
     ·have:=pF f.subs e' M (by omega) hws hM hE' p hp;exact ⟨this.1,by omega⟩
    have hfar:=far_bd (l:=prtRs f.rgx e'++prtFs f.subs e') (B:=M+1099511627776*((nodRs f.rgx:Int)+nodFs f.subs)) (by omega) (fun p hp=>(hall p hp).2)
    have hpt:=ptN_bd (l:=prtRs f.rgx e'++prtFs f.subs e') (B:=M+1099511627776*((nodRs f.rgx:Int)+nodFs f.subs)) (by omega) hall 1
    unfold rchIn
    split
    ·have:=rchOf_bd hM he f.nm;omega
    ·split
     ·rename_i hk
      have:=hi_rng hE hk
      omega
     ·split
      ·omega
      ·omega
  ·intro r e M hn hw hM he
   rw [nodR_eq] at hn
   rw [wfR_eq] at hw
   have hN:(nodR r:Int)=1+nodFs r.test+nodRs r.subs:=by rw [nodR_eq];omega
   rw [prtR_eq]
   show 0≤farP _∧farP _≤_
   have hfar:=far_bd (l:=prtFs r.test e++prtRs r.subs e) (B:=M+1099511627776*((nodFs r.test:Int)+nodRs r.subs)) (by omega) (fun p hp=>by
    rcases List.mem_append.1 hp with hp | hp
    ·have:=pF r.test e M (by omega) hw.2.1 hM he p hp;omega
    ·have:=pR r.subs e M (by omega) hw.2.2 hM he p hp;omega)
   omega
inductive PtV (w:World):Value→Pt→Prop
 | fx {x:Fx} {uv ub:Value} (hv:NmsAt w uv x.vars) (hb:NmsAt w ub x.bare):PtV w (.iface 48 (.agg #[uv,.bool x.acc,.int .i64 x.reach,ub])) (.fx x)
 | neg {x:Fx} {o:Pt} {uv ub ov:Value} (hv:NmsAt w uv x.vars) (hb:NmsAt w ub x.bare) (ho:PtV w ov o):PtV w (.iface 83 (.agg #[uv,.bool x.acc,.int .i64 x.reach,ub,ov])) (.neg x o)
 | cmp {x:Fx} {k:Int} {a b:Tm} {uv ub ua uc:Value} (hv:NmsAt w uv x.vars) (hb:NmsAt w ub x.bare) (ha:TmsAt w ua a.subs) (hc:TmsAt w uc b.subs) (fa:a.v.Fits) (fb:b.v.Fits):
   PtV w (.iface 85 (.agg #[uv,.bool x.acc,.int .i64 x.reach,ub,.int .i64 k,.int .i64 a.k,.string a.nm,.int .i64 a.v.k,.int .i64 a.v.n,.int .i64 a.v.d,.string a.v.s,ua,.int .i64 b.k,.string b.nm,.int .i64 b.v.k,.int .i64 b.v.n,.int .i64 b.v.d,.string b.v.s,uc])) (.cmp x k a b)
theorem PtV.keep {w w':World} {v:Value} {p:Pt} (h:PtV w v p) (hb:Below w.heap.size w w'):PtV w' v p:=by
 induction h with
 | fx h1 h2=>exact .fx (h1.below hb) (h2.below hb)
 | neg h1 h2 _ ih=>exact .neg (h1.below hb) (h2.below hb) ih
 | cmp h1 h2 h3 h4 h5 h6=>exact .cmp (h1.below hb) (h2.below hb) (h3.bel hb) (h4.bel hb) h5 h6
theorem about_fx (uv ub:Value) (a:Bool) (r:Int) (pv pb:Option Addr) (nv nb cv cb:Nat) (w:World):
  Calls Tryz.prog 197 #[.agg #[.slice pv nv cv,.bool a,.int .i64 r,.slice pb nb cb]] w fun e w'=>e=.returned (.agg #[.slice pv nv cv,.bool a,.int .i64 r,.slice pb nb cb])∧Below w.heap.size w w':=by
 go_enter Tryz.func197,Tryz.ntmps197
 go_wp2
 refine bodyPost_ret (by simp [results,Tryz.results197,go_sem];try rfl) rfl ?_
 exact ⟨rfl,by go_grown⟩
theorem amg_any (xs ys:List ByteArray) (V U:Value) (w:World) (hV:NmsAt w V xs) (hU:NmsAt w U ys):
  Calls Tryz.prog 47 #[V,U] w fun e w'=>e=.returned (.bool (amg xs ys))∧Below w.heap.size w w':=by
 obtain ⟨p,c,rfl,hl,hc,HX0⟩:=hV.form
 have HX:Hid (∀ i (hi:i<xs.length),∃ b off,p=some ⟨b,off,none⟩∧b<w.heap.size∧w.cell? ⟨b,off+i,none⟩=some (.string xs[i])):=HX0
 have CC:Hid (∀ (x:ByteArray) (W:World),Below w.heap.size w W→Calls Tryz.prog 79 #[U,.string x] W fun e w'=>e=.returned (.bool (Lib.containsS ys x))∧Below W.heap.size W w'):=fun x W hW=>(acont_any U ys x W (hU.below hW)).mono (fun e w' h=>⟨h.1,by rw [h.2];exact Below.refl _ _⟩)
 obtain ⟨q,d,rfl, -⟩:=hU.form
 obtain ⟨n,en⟩:∃ n:Nat,Hid (xs.length=n):=⟨_,rfl⟩
 have HR:Hid (amg xs ys=amg (xs.drop 0) ys):=by rw [List.drop_zero];exact (show _=_ from rfl)
 rw [en.out] at hl hc ⊢
 obtain ⟨R,eR⟩:∃ R:Bool,Hid (amg xs ys=R):=⟨_,rfl⟩
 rw [eR.out] at HR ⊢
 clear hV hU HX0
 go_enter Tryz.func47,Tryz.ntmps47
 go_wp2
 go_loopw [9] (fun v9 wr=>∃ k:Nat,k≤n∧v9=.int .i64 k∧Hid (R=amg (xs.drop k) ys)∧Below w.heap.size w wr) (fun v9 _=>n - (intOf v9).toNat)
 case atStart=>exact ⟨0,Nat.zero_le _,rfl,HR.out,Below.refl _ _⟩
 case round=>
  obtain ⟨k,hk,rfl,hr,hB⟩:=hrel
  by_cases hlt:k<n
  ·have kx:k<xs.length:=by have:=en.out;omega
   have hlt':(k:Int)<n:=by omega
   obtain ⟨b,off,rfl,hb,r0⟩:=HX.out k kx
   have a0:=(hB.cell (p:=⟨b,off+k,none⟩) hb).trans r0
   have hr2:Hid (R=(Lib.containsS ys xs[k] && amg (xs.drop (k+1)) ys)):=by
    have h:=hr.out
    rw [List.drop_eq_getElem_cons kx] at h
    exact h
   have cK:=CC.out xs[k]
   generalize Lib.containsS ys xs[k]=B at cK hr2
   generalize xs[k]=X at a0 cK
   have CK:Hid (∀ W:World,Below w.heap.size w W→_):=cK
   clear r0 hr cK
   go_wp2_with fail
   refine (CK.out _ hB).mono ?_
   rintro e w2 ⟨rfl,hb2⟩
   have B2:Below w.heap.size w w2:=hB.trans (hb2.mono hB.size)
   clear hb2 a0 CK
   cases B with
   | true=>
    have hr3:Hid (R=amg (xs.drop (k+1)) ys):=by have:=hr2.out;rwa [Bool.true_and] at this
    go_wp2
    exact ⟨⟨k+1,by omega,by go_num,hr3,B2⟩,by simp [intOf];omega⟩
   | false=>
    have hr3:R=false:=by have:=hr2.out;rwa [Bool.false_and] at this
    go_wp2
    go_ret
    exact ⟨by first | rfl | (rw [hr3];rfl),B2⟩
  ·have c2:¬ (k:Int)<n:=by omega
   have hr3:R=true:=by
    have h:=hr.out
    rw [List.drop_eq_nil_of_le (by have:=en.out;omega)] at h
    exact h
   go_wp2
   go_ret
   exact ⟨by first | rfl | (rw [hr3];rfl),hB⟩
def PtLst (w:World) (v:Value) (ps:List Pt):Prop:=∃ p c,v=.slice p ps.length c∧ps.length≤c∧ps.length≤9223372036854775807∧∀ i (h:i<ps.length),∃ b off u,p=some ⟨b,off,none⟩∧b<w.heap.size∧w.cell? ⟨b,off+i,none⟩=some u∧PtV w u ps[i]
theorem PtLst.below {w w':World} {v:Value} {ps:List Pt} (h:PtLst w v ps) (hb:Below w.heap.size w w'):PtLst w' v ps:=by
 obtain ⟨p,c,h1,h2,h3,h4⟩:=h
 refine ⟨p,c,h1,h2,h3,fun i hi=> ?_⟩
 obtain ⟨b,off,u,e1,e2,e3,e4⟩:=h4 i hi
 exact ⟨b,off,u,e1,Nat.lt_of_lt_of_le e2 hb.size,(hb.cell (p:=⟨b,_,none⟩) e2).trans e3,e4.keep hb⟩
theorem fld_vars (a:Bool) (r:Int) (pv pb:Option Addr) (nv nb cv cb:Nat) (w:World):(Instr.field 48 (.agg #[.slice pv nv cv,.bool a,.int .i64 r,.slice pb nb cb]) 0).run Tryz.prog w=.ok (.slice pv nv cv) w:=by kernel_rfl
theorem fld_acc (a:Bool) (r:Int) (pv pb:Option Addr) (nv nb cv cb:Nat) (w:World):(Instr.field 48 (.agg #[.slice pv nv cv,.bool a,.int .i64 r,.slice pb nb cb]) 1).run Tryz.prog w=.ok (.bool a) w:=by kernel_rfl
theorem fld_reach (a:Bool) (r:Int) (pv pb:Option Addr) (nv nb cv cb:Nat) (w:World):(Instr.field 48 (.agg #[.slice pv nv cv,.bool a,.int .i64 r,.slice pb nb cb]) 2).run Tryz.prog w=.ok (.int .i64 r) w:=by kernel_rfl
theorem fld_bare (a:Bool) (r:Int) (pv pb:Option Addr) (nv nb cv cb:Nat) (w:World):(Instr.field 48 (.agg #[.slice pv nv cv,.bool a,.int .i64 r,.slice pb nb cb]) 3).run Tryz.prog w=.ok (.slice pb nb cb) w:=by kernel_rfl
theorem accepted_any (ps:List Pt) (V:Value) (w:World) (hV:PtLst w V ps):
  Calls Tryz.prog 85 #[V] w fun e w'=>e=.returned (.bool (accP ps))∧Below w.heap.size w w':=by
 obtain ⟨p,c,rfl,hc,hl,HX0⟩:=hV
 have HX:Hid (∀ i (h:i<ps.length),∃ b off u,p=some ⟨b,off,none⟩∧b<w.heap.size∧w.cell? ⟨b,off+i,none⟩=some u∧PtV w u ps[i]):=HX0
 have CA:Hid (∀ (a:Bool) (r:Int) (pv pb:Option Addr) (nv nb cv cb:Nat) (W:World),Calls Tryz.prog 197 #[.agg #[.slice pv nv cv,.bool a,.int .i64 r,.slice pb nb cb]] W fun e w'=>e=.returned (.agg #[.slice pv nv cv,.bool a,.int .i64 r,.slice pb nb cb])∧Below W.heap.size W w'):=fun a r pv pb nv nb cv cb W=>about_fx (.bool true) (.bool true) a r pv pb nv nb cv cb W
 obtain ⟨n,en⟩:∃ n:Nat,Hid (ps.length=n):=⟨_,rfl⟩
 have HR:Hid (accP ps=accP (ps.drop 0)):=by rw [List.drop_zero];exact (show _=_ from rfl)
 rw [en.out] at hl hc ⊢
 obtain ⟨R,eR⟩:∃ R:Bool,Hid (accP ps=R):=⟨_,rfl⟩
 rw [eR.out] at HR ⊢
 clear HX0
 go_enter Tryz.func85,Tryz.ntmps85
 go_wp2
 go_loopw [7] (fun v7 wr=>∃ k:Nat,k≤n∧v7=.int .i64 k∧Hid (R=accP (ps.drop k))∧Below w.heap.size w wr) (fun v7 _=>n - (intOf v7).toNat)
 case atStart=>exact ⟨0,Nat.zero_le _,rfl,HR.out,Below.refl _ _⟩
 case round=>
  obtain ⟨k,hk,rfl,hr,hB⟩:=hrel
  by_cases hlt:k<n
  ·have kx:k<ps.length:=by have:=en.out;omega
   have hlt':(k:Int)<n:=by omega
   obtain ⟨b,off,u,rfl,hb,r0,hP⟩:=HX.out k kx
   have a0:=(hB.cell (p:=⟨b,off+k,none⟩) hb).trans r0
   have hr2:Hid (R=(ps[k].about.acc && accP (ps.drop (k+1)))):=by
    have h:=hr.out
    rw [List.drop_eq_getElem_cons kx] at h
    exact h
   have tail:(ps[k].about.acc=true→Hid (R=accP (ps.drop (k+1))))∧(ps[k].about.acc=false→R=false):=by
    have h:=hr2.out
    constructor
    ·intro e;rw [e,Bool.true_and] at h;exact h
    ·intro e;rw [e,Bool.false_and] at h;exact h
   generalize ps[k]=P at hP tail
   clear r0 hr hr2
   cases hP with
   | @fx x uv ub hv hb9=>
    obtain ⟨pv,cv,rfl, -⟩:=hv.form
    obtain ⟨pb,cb,rfl, -⟩:=hb9.form
    have TL:Hid ((x.acc=true→Hid (R=accP (ps.drop (k+1))))∧(x.acc=false→R=false)):=tail
    clear tail
    generalize x.acc=A at*
    generalize x.reach=rr at*
    generalize x.vars.length=nv at*
    generalize x.bare.length=nb at*
    go_wp2_with fail
    refine (CA.out _ _ _ _ _ _ _ _ _).mono ?_
    rintro e w2 ⟨rfl,hb2⟩
    have B2:Below w.heap.size w w2:=hB.trans (hb2.mono hB.size)
    obtain ⟨t1,t2⟩:=TL.out
    have hfd:=fld_acc
    clear hb2 a0 TL
    cases A with
    | true=>
     have hr3:=t1 rfl
     clear t1 t2
     go_wp2
     exact ⟨⟨k+1,by omega,by go_num,hr3,B2⟩,by simp [intOf];omega⟩
    | false=>
     have hr3:=t2 rfl
     clear t1 t2
     go_wp2
     go_ret
     exact ⟨by first | rfl | (rw [hr3];rfl),B2⟩
   | @neg x o uv ub ov hv hb9 ho=>
    clear ho
    obtain ⟨pv,cv,rfl, -⟩:=hv.form
    obtain ⟨pb,cb,rfl, -⟩:=hb9.form
    have TL:Hid ((x.acc=true→Hid (R=accP (ps.drop (k+1))))∧(x.acc=false→R=false)):=tail
    clear tail
    generalize x.acc=A at*
    generalize x.reach=rr at*
    generalize x.vars.length=nv at*
    generalize x.bare.length=nb at*
    go_wp2_with fail
    refine (CA.out _ _ _ _ _ _ _ _ _).mono ?_
    rintro e w2 ⟨rfl,hb2⟩
    have B2:Below w.heap.size w w2:=hB.trans (hb2.mono hB.size)
    obtain ⟨t1,t2⟩:=TL.out
    have hfd:=fld_acc
    clear hb2 a0 TL
    cases A with
    | true=>
     have hr3:=t1 rfl
     clear t1 t2
     go_wp2
     exact ⟨⟨k+1,by omega,by go_num,hr3,B2⟩,by simp [intOf];omega⟩
    | false=>
     have hr3:=t2 rfl
     clear t1 t2
     go_wp2
     go_ret
     exact ⟨by first | rfl | (rw [hr3];rfl),B2⟩
   | @cmp x kk ta tb uv ub ua uc hv hb9 h3 h4 h5 h6=>
    obtain ⟨pa,ca,rfl, -⟩:=h3.form
    obtain ⟨pc,cc,rfl, -⟩:=h4.form
    clear h3 h4 h5 h6
    obtain ⟨pv,cv,rfl, -⟩:=hv.form
    obtain ⟨pb,cb,rfl, -⟩:=hb9.form
    have TL:Hid ((x.acc=true→Hid (R=accP (ps.drop (k+1))))∧(x.acc=false→R=false)):=tail
    clear tail
    generalize x.acc=A at*
    generalize x.reach=rr at*
    generalize x.vars.length=nv at*
    generalize x.bare.length=nb at*
    go_wp2_with fail
    refine (CA.out _ _ _ _ _ _ _ _ _).mono ?_
    rintro e w2 ⟨rfl,hb2⟩
    have B2:Below w.heap.size w w2:=hB.trans (hb2.mono hB.size)
    obtain ⟨t1,t2⟩:=TL.out
    have hfd:=fld_acc
    clear hb2 a0 TL
    cases A with
    | true=>
     have hr3:=t1 rfl
     clear t1 t2
     go_wp2
     exact ⟨⟨k+1,by omega,by go_num,hr3,B2⟩,by simp [intOf];omega⟩
    | false=>
     have hr3:=t2 rfl
     clear t1 t2
     go_wp2
     go_ret
     exact ⟨by first | rfl | (rw [hr3];rfl),B2⟩
  ·have c2:¬ (k:Int)<n:=by omega
   have hr3:R=true:=by
    have h:=hr.out
    rw [List.drop_eq_nil_of_le (by have:=en.out;omega)] at h
    exact h
   go_wp2
   go_ret
   exact ⟨by first | rfl | (rw [hr3];rfl),hB⟩
theorem PtV.abt {w:World} {u:Value} {P:Pt} (h:PtV w u P):∃ (T:TypeId) (vv:Value) (pv pb:Option Addr) (cv cb:Nat),u=.iface T vv∧NmsAt w (.slice pv P.about.vars.length cv) P.about.vars∧NmsAt w (.slice pb P.about.bare.length cb) P.about.bare∧∀ W:World,Sem.run Tryz.prog (method 333 T vv "custos/static.about") W=.ok (197,.agg #[.slice pv P.about.vars.length cv,.bool P.about.acc,.int .i64 P.about.reach,.slice pb P.about.bare.length cb]) W:=by
 cases h with
 | @fx x uv ub hv hb=>
  obtain ⟨pv,cv,rfl, -⟩:=hv.form
  obtain ⟨pb,cb,rfl, -⟩:=hb.form
  exact ⟨_,_,pv,pb,cv,cb,rfl,hv,hb,fun W=>by kernel_rfl⟩
 | @neg x o uv ub ov hv hb ho=>
  obtain ⟨pv,cv,rfl, -⟩:=hv.form
  obtain ⟨pb,cb,rfl, -⟩:=hb.form
  exact ⟨_,_,pv,pb,cv,cb,rfl,hv,hb,fun W=>by kernel_rfl⟩
 | @cmp x k a b uv ub ua uc hv hb h3 h4 h5 h6=>
  obtain ⟨pv,cv,rfl, -⟩:=hv.form
  obtain ⟨pb,cb,rfl, -⟩:=hb.form
  exact ⟨_,_,pv,pb,cv,cb,rfl,hv,hb,fun W=>by kernel_rfl⟩
theorem sunion_any (A:Value) (us:List Value) (rs:List (List ByteArray)) (w:World) (hA:LstsAt w A us rs) (lt:rs.flatten.length≤1000000000) (lu:us.length≤1000000000):
  Calls Tryz.prog 89 #[A] w fun e w'=>∃ v,e=.returned v∧OwnN w.heap.size v (uniN rs) w'∧Below w.heap.size w w':=by
 have cC:Hid (Calls Tryz.prog 118 #[A] w fun e w'=>∃ v,e=.returned v∧OwnN w.heap.size v rs.flatten w'∧Below w.heap.size w w'):=concatS_any A us rs w hA lt lu
 obtain ⟨-,p,c,rfl, -⟩:=hA
 generalize us.length=n at*
 obtain ⟨F,eF⟩:∃ F,Hid (rs.flatten=F):=⟨_,rfl⟩
 have eU:Hid (uniN rs=cmpN (srtN F)):=by unfold Hid uniN;rw [eF.out]
 rw [eU.out]
 rw [eF.out] at cC lt
 go_enter Tryz.func89,Tryz.ntmps89
 go_wp2_with fail
 refine cC.out.mono ?_
 rintro r w1 ⟨v,rfl,hO,hB⟩
 have HO:Hid (OwnN w.heap.size v F w1):=hO
 clear cC hO
 go_wp2_with fail
 refine (sortS_any w.heap.size v F w1 hB.size HO.out (by omega)).mono ?_
 rintro r w2 ⟨rfl,hO2,hb2⟩
 have HO2:Hid (OwnN w.heap.size v (srtN F) w2):=hO2
 have hB2:Below w.heap.size w w2:=hB.trans hb2
 clear HO hO2 hb2
 go_wp2_with fail
 refine (compactS_any w.heap.size v (srtN F) w2 HO2.out (by rw [srtN_len];omega)).mono ?_
 rintro r w3 ⟨v3,rfl,hO3,hb3⟩
 have hB3:Below w.heap.size w w3:=hB2.trans hb3
 have HO3:Hid (OwnN w.heap.size v3 (cmpN (srtN F)) w3):=hO3
 clear hO3 hb3 HO2
 go_wp2
 go_ret
 exact ⟨_,rfl,HO3.out,hB3⟩
theorem farthest_any (ps:List Pt) (V:Value) (w:World) (hV:PtLst w V ps):
  Calls Tryz.prog 88 #[V] w fun e w'=>e=.returned (.int .i64 (farP ps))∧Below w.heap.size w w':=by
 obtain ⟨p,c,rfl,hc,hl,HX0⟩:=hV
 have HX:Hid (∀ i (h:i<ps.length),∃ b off u,p=some ⟨b,off,none⟩∧b<w.heap.size∧w.cell? ⟨b,off+i,none⟩=some u∧PtV w u ps[i]):=HX0
 have CA:Hid (∀ (a:Bool) (r:Int) (pv pb:Option Addr) (nv nb cv cb:Nat) (W:World),Calls Tryz.prog 197 #[.agg #[.slice pv nv cv,.bool a,.int .i64 r,.slice pb nb cb]] W fun e w'=>e=.returned (.agg #[.slice pv nv cv,.bool a,.int .i64 r,.slice pb nb cb])∧Below W.heap.size W w'):=fun a r pv pb nv nb cv cb W=>about_fx (.bool true) (.bool true) a r pv pb nv nb cv cb W
 obtain ⟨n,en⟩:∃ n:Nat,Hid (ps.length=n):=⟨_,rfl⟩
 have HR:Hid (farP ps=(ps.drop 0).foldl (fun r p=>max r p.about.reach) 0):=by rw [List.drop_zero];exact (show _=_ from rfl)
 rw [en.out] at hl hc ⊢
 obtain ⟨R,eR⟩:∃ R:Int,Hid (farP ps=R):=⟨_,rfl⟩
 rw [eR.out] at HR ⊢
 clear HX0
 go_enter Tryz.func88,Tryz.ntmps88
 go_wp2
 go_loopw [3,8] (fun v3 v8 wr=>∃ (k:Nat) (r:Int),k≤n∧v8=.int .i64 k∧v3=.int .i64 r∧Hid (R=(ps.drop k).foldl (fun r p=>max r p.about.reach) r)∧Below w.heap.size w wr) (fun _ v8 _=>n - (intOf v8).toNat)
 case atStart=>exact ⟨0,0,Nat.zero_le _,rfl,rfl,HR.out,Below.refl _ _⟩
 case round=>
  obtain ⟨k,r,hk,rfl,rfl,hr,hB⟩:=hrel
  by_cases hlt:k<n
  ·have kx:k<ps.length:=by have:=en.out;omega
   have hlt':(k:Int)<n:=by omega
   obtain ⟨b,off,u,rfl,hb,r0,hP⟩:=HX.out k kx
   have a0:=(hB.cell (p:=⟨b,off+k,none⟩) hb).trans r0
   have hr2:Hid (R=(ps.drop (k+1)).foldl (fun r p=>max r p.about.reach) (max r ps[k].about.reach)):=by
    have h:=hr.out
    rw [List.drop_eq_getElem_cons kx,List.foldl_cons] at h
    exact h
   obtain ⟨T,vv,pv,pb,cv,cb,rfl, -, -,hm⟩:=hP.abt
   clear r0 hr hP
   generalize ps[k].about.acc=A at*
   generalize ps[k].about.reach=rr at*
   generalize ps[k].about.vars.length=nv at*
   generalize ps[k].about.bare.length=nb at*
   go_wp2_with fail
   refine (CA.out _ _ _ _ _ _ _ _ _).mono ?_
   rintro e w2 ⟨rfl,hb2⟩
   have B2:Below w.heap.size w w2:=hB.trans (hb2.mono hB.size)
   have hfd:=fld_reach
   clear hb2 a0 hm
   go_wp2
   exact ⟨⟨k+1,max r rr,by omega,by go_num,(by first | rfl | trivial),hr2,B2⟩,by simp [intOf];omega⟩
  ·have c2:¬ (k:Int)<n:=by omega
   have hr3:R=r:=by
    have h:=hr.out
    rw [List.drop_eq_nil_of_le (by have:=en.out;omega)] at h
    exact h
   go_wp2
   go_ret
   exact ⟨by first | rfl | (rw [hr3];rfl),hB⟩
theorem varsOf_any (ps:List Pt) (V:Value) (w:World) (hV:PtLst w V ps) (hT:((ps.map fun p=>p.about.vars).flatten).length≤1000000000):
  Calls Tryz.prog 110 #[V] w fun e w'=>∃ v,e=.returned v∧OwnN w.heap.size v (varsP ps) w'∧Below w.heap.size w w':=by
 obtain ⟨i0,hi,hz0,hz1,hz2⟩:=info_parts inStA
 obtain ⟨p,c,rfl,hc,hl,HX0⟩:=hV
 have HX:Hid (∀ i (h:i<ps.length),∃ b off u,p=some ⟨b,off,none⟩∧b<w.heap.size∧w.cell? ⟨b,off+i,none⟩=some u∧PtV w u ps[i]):=HX0
 have CA:Hid (∀ (a:Bool) (r:Int) (pv pb:Option Addr) (nv nb cv cb:Nat) (W:World),Calls Tryz.prog 197 #[.agg #[.slice pv nv cv,.bool a,.int .i64 r,.slice pb nb cb]] W fun e w'=>e=.returned (.agg #[.slice pv nv cv,.bool a,.int .i64 r,.slice pb nb cb])∧Below W.heap.size W w'):=fun a r pv pb nv nb cv cb W=>about_fx (.bool true) (.bool true) a r pv pb nv nb cv cb W
 obtain ⟨n,en⟩:∃ n:Nat,Hid (ps.length=n):=⟨_,rfl⟩
 have hT0:∀ k (h:k<ps.length),((ps.map fun p=>p.about.vars).take (k+1)).flatten=((ps.map fun p=>p.about.vars).take k).flatten++ps[k].about.vars:=fun k h=>by
  rw [List.take_succ_eq_append_getElem (by rw [List.length_map];exact h),List.flatten_append,List.getElem_map]
  simp
 have hL0:ps.length=(ps.map fun p=>p.about.vars).length:=by rw [List.length_map]
 have eV:Hid (varsP ps=uniN [(ps.map fun p=>p.about.vars).flatten]):=(show _=_ from rfl)
 rw [eV.out]
 generalize (ps.map fun p=>p.about.vars)=F at*
 have HTK:Hid (∀ k (h:k<ps.length),(F.take (k+1)).flatten=(F.take k).flatten++ps[k].about.vars):=hT0
 have HL0:Hid (ps.length=F.length):=hL0
 have HT:Hid (∀ k,(F.take k).flatten.length≤1000000000):=fun k=>by
  have h2:(F.take k).flatten.length≤F.flatten.length:=by
   conv=>rhs;rw [← List.take_append_drop k F]
   rw [List.flatten_append,List.length_append]
   omega
  omega
 rw [en.out] at hl hc ⊢
 obtain ⟨G0,eG0⟩:∃ G,Hid (F.flatten=G):=⟨_,rfl⟩
 rw [eG0.out]
 clear HX0 hT0 hL0 eV hT
 go_enter Tryz.func110,Tryz.ntmps110
 go_wp2
 go_loopw [3,8] (fun v3 v8 wr=>∃ k:Nat,k≤n∧v8=.int .i64 k∧Hid (OwnN w.heap.size v3 (F.take k).flatten wr)∧Below w.heap.size w wr) (fun _ v8 _=>n - (intOf v8).toNat)
 case atStart=>exact ⟨0,Nat.zero_le _,rfl,OwnN.nil _ _,Below.refl _ _⟩
 case round=>
  obtain ⟨k,hk,rfl,hO,hB⟩:=hrel
  by_cases hlt:k<n
  ·have kx:k<ps.length:=by have:=en.out;omega
   have hlt':(k:Int)<n:=by omega
   obtain ⟨b,off,u,rfl,hb,r0,hP⟩:=HX.out k kx
   have a0:=(hB.cell (p:=⟨b,off+k,none⟩) hb).trans r0
   obtain ⟨T,vv,pv,pb,cv,cb,rfl,hv,hb9,hm⟩:=hP.abt
   have hTk:=HTK.out k kx
   have hTl:=HT.out (k+1)
   rw [hTk,List.length_append] at hTl
   have HO1:Hid ((F.take (k+1)).flatten=(F.take k).flatten++ps[k].about.vars):=hTk
   have HN:Hid (∀ W:World,Below w.heap.size w W→SrcA W 1 (.slice pv ps[k].about.vars.length cv) ps[k].about.vars.length (ps[k].about.vars.map Value.string)):=fun W hW=>srcA_nms (hv.below hW)
   clear r0 hP hv hb9 hTk
   generalize ps[k].about.acc=A at*
   generalize ps[k].about.reach=rr at*
   generalize ps[k].about.bare.length=no at*
   obtain ⟨X,eX⟩:∃ X,Hid (ps[k].about.vars=X):=⟨ps[k].about.vars,(show _=_ from rfl)⟩
   rw [eX.out] at hm hTl HO1 HN
   obtain ⟨G,eG⟩:∃ G,Hid ((F.take k).flatten=G):=⟨_,rfl⟩
   rw [eG.out] at hO hTl HO1
   obtain ⟨nx,enx⟩:∃ nx:Nat,Hid (X.length=nx):=⟨X.length,(show _=_ from rfl)⟩
   rw [enx.out] at hm hTl HN
   have HO2:Hid (∀ v W,w.heap.size≤W.heap.size→OwnN w.heap.size v G wr→Below wr.heap.size wr W→OwnN w.heap.size v G W):=fun v W h1 h2 h3=>h2.bel h3
   go_wp2_with fail
   refine (CA.out _ _ _ _ _ _ _ _ _).mono ?_
   rintro e w2 ⟨rfl,hb2⟩
   have B2:Below w.heap.size w w2:=hB.trans (hb2.mono hB.size)
   have O2:Hid (OwnN w.heap.size u3 G w2):=hO.out.bel hb2
   have HX2:Hid (SrcA w2 1 (.slice pv nx cv) nx (X.map Value.string)):=HN.out w2 B2
   have hfd:=fld_vars
   have hK:=B2.size
   have HK:Hid (∀ q,u3.ownBlock=some q→w.heap.size≤q):=fun q hq=>(World.ownsRow.lt O2.out q hq).1
   clear hb2 a0 hm hO HO2 HN
   go_wp2_with (at_builtin;refine wpList_append_srcA rfl (.tmp 12) (.tmp 15) 22 rfl w.heap.size 9 i0 _ 1 16 Tryz.underlying22 hi hz0 hz1 hz2 rfl (by decide) _ _ _ rfl O2.out _ nx (X.map Value.string) rfl HX2.out (by intro u hu;obtain ⟨y, -,rfl⟩:=List.mem_map.1 hu;rfl) (by unfold maxLen;omega) (by omega) hK ?grow)
   case grow=>
    intro v' w3 h2 h3 _
    have O3:Hid (OwnN w.heap.size v' (F.take (k+1)).flatten w3):=by
     show OwnN _ _ _ _
     rw [HO1.out]
     unfold OwnN
     rw [List.length_append,List.map_append,enx.out]
     exact h2
    have B3:Below w.heap.size w w3:=B2.grown h3 hK HK.out
    clear h2 h3 HX2 O2 HK
    go_wp2
    exact ⟨⟨k+1,by omega,by go_num,O3,B3⟩,by simp [intOf];omega⟩
  ·have c2:¬ (k:Int)<n:=by omega
   have hl2:G0.length≤1000000000:=by
    have h:=HT.out F.length
    rw [List.take_length,eG0.out] at h
    exact h
   have O3:Hid (OwnN w.heap.size u3 G0 wr):=by
    have h:=hO.out
    rwa [List.take_of_length_le (by have:=en.out;have:=HL0.out;omega),eG0.out] at h
   have HN1:Hid (NmsAt wr u3 G0):=O3.out.nms (by omega)
   have hz1':=hB.size
   obtain ⟨p1,c1,rfl, -⟩:=HN1.out.form
   have HU:Hid (∀ (W:World) (b:Nat),Below wr.heap.size wr W→b<W.heap.size→W.cell? ⟨b,0,none⟩=some (.slice p1 G0.length c1)→Calls Tryz.prog 89 #[.slice (some ⟨b,0,none⟩) 1 1] W fun e w'=>∃ v,e=.returned v∧OwnN W.heap.size v (uniN [G0]) w'∧Below W.heap.size W w'):=fun W b h1 h2 h3=>by
    refine sunion_any _ [.slice p1 G0.length c1] [G0] W ⟨rfl,_,_,rfl,fun k hk=> ?_,fun k hk ky=> ?_⟩ (by simp;omega) (by simp)
    ·have:k=0:=by simp at hk;omega
     subst this;exact ⟨b,0,rfl,h2,h3⟩
    ·have:k=0:=by simp at hk;omega
     subst this;exact HN1.out.below h1
   clear hO O3 HTK HT
   go_wp2_with fail
   refine (HU.out _ wr.heap.size ((Below.refl _ _).alloc (Nat.le_refl _) _) (by simp) (by simp [go_sem])).mono ?_
   rintro r w2 ⟨v2,rfl,hO2,hb2⟩
   have hB2:Below w.heap.size w w2:=(hB.alloc hz1' _).trans (hb2.mono (by simp;omega))
   have HO3:Hid (OwnN w.heap.size v2 (uniN [G0]) w2):=own_monoB hO2 (by simp;omega)
   clear hO2 hb2 HU
   go_wp2
   go_ret
   exact ⟨_,rfl,HO3.out,hB2⟩
theorem bareOf_any (ps:List Pt) (V:Value) (w:World) (hV:PtLst w V ps) (hT:((ps.map fun p=>p.about.bare).flatten).length≤1000000000):
  Calls Tryz.prog 91 #[V] w fun e w'=>∃ v,e=.returned v∧OwnN w.heap.size v (bareP ps) w'∧Below w.heap.size w w':=by
 obtain ⟨i0,hi,hz0,hz1,hz2⟩:=info_parts inStA
 obtain ⟨p,c,rfl,hc,hl,HX0⟩:=hV
 have HX:Hid (∀ i (h:i<ps.length),∃ b off u,p=some ⟨b,off,none⟩∧b<w.heap.size∧w.cell? ⟨b,off+i,none⟩=some u∧PtV w u ps[i]):=HX0
 have CA:Hid (∀ (a:Bool) (r:Int) (pv pb:Option Addr) (nv nb cv cb:Nat) (W:World),Calls Tryz.prog 197 #[.agg #[.slice pv nv cv,.bool a,.int .i64 r,.slice pb nb cb]] W fun e w'=>e=.returned (.agg #[.slice pv nv cv,.bool a,.int .i64 r,.slice pb nb cb])∧Below W.heap.size W w'):=fun a r pv pb nv nb cv cb W=>about_fx (.bool true) (.bool true) a r pv pb nv nb cv cb W
 obtain ⟨n,en⟩:∃ n:Nat,Hid (ps.length=n):=⟨_,rfl⟩
 have hT0:∀ k (h:k<ps.length),((ps.map fun p=>p.about.bare).take (k+1)).flatten=((ps.map fun p=>p.about.bare).take k).flatten++ps[k].about.bare:=fun k h=>by
  rw [List.take_succ_eq_append_getElem (by rw [List.length_map];exact h),List.flatten_append,List.getElem_map]
  simp
 have hL0:ps.length=(ps.map fun p=>p.about.bare).length:=by rw [List.length_map]
 have eV:Hid (bareP ps=uniN [(ps.map fun p=>p.about.bare).flatten]):=(show _=_ from rfl)
 rw [eV.out]
 generalize (ps.map fun p=>p.about.bare)=F at*
 have HTK:Hid (∀ k (h:k<ps.length),(F.take (k+1)).flatten=(F.take k).flatten++ps[k].about.bare):=hT0
 have HL0:Hid (ps.length=F.length):=hL0
 have HT:Hid (∀ k,(F.take k).flatten.length≤1000000000):=fun k=>by
  have h2:(F.take k).flatten.length≤F.flatten.length:=by
   conv=>rhs;rw [← List.take_append_drop k F]
   rw [List.flatten_append,List.length_append]
   omega
  omega
 rw [en.out] at hl hc ⊢
 obtain ⟨G0,eG0⟩:∃ G,Hid (F.flatten=G):=⟨_,rfl⟩
 rw [eG0.out]
 clear HX0 hT0 hL0 eV hT
 go_enter Tryz.func91,Tryz.ntmps91
 go_wp2
 go_loopw [3,8] (fun v3 v8 wr=>∃ k:Nat,k≤n∧v8=.int .i64 k∧Hid (OwnN w.heap.size v3 (F.take k).flatten wr)∧Below w.heap.size w wr) (fun _ v8 _=>n - (intOf v8).toNat)
 case atStart=>exact ⟨0,Nat.zero_le _,rfl,OwnN.nil _ _,Below.refl _ _⟩
 case round=>
  obtain ⟨k,hk,rfl,hO,hB⟩:=hrel
  by_cases hlt:k<n
  ·have kx:k<ps.length:=by have:=en.out;omega
   have hlt':(k:Int)<n:=by omega
   obtain ⟨b,off,u,rfl,hb,r0,hP⟩:=HX.out k kx
   have a0:=(hB.cell (p:=⟨b,off+k,none⟩) hb).trans r0
   obtain ⟨T,vv,pv,pb,cv,cb,rfl,hv,hb9,hm⟩:=hP.abt
   have hTk:=HTK.out k kx
   have hTl:=HT.out (k+1)
   rw [hTk,List.length_append] at hTl
   have HO1:Hid ((F.take (k+1)).flatten=(F.take k).flatten++ps[k].about.bare):=hTk
   have HN:Hid (∀ W:World,Below w.heap.size w W→SrcA W 1 (.slice pb ps[k].about.bare.length cb) ps[k].about.bare.length (ps[k].about.bare.map Value.string)):=fun W hW=>srcA_nms (hb9.below hW)
   clear r0 hP hv hb9 hTk
   generalize ps[k].about.acc=A at*
   generalize ps[k].about.reach=rr at*
   generalize ps[k].about.vars.length=no at*
   obtain ⟨X,eX⟩:∃ X,Hid (ps[k].about.bare=X):=⟨ps[k].about.bare,(show _=_ from rfl)⟩
   rw [eX.out] at hm hTl HO1 HN
   obtain ⟨G,eG⟩:∃ G,Hid ((F.take k).flatten=G):=⟨_,rfl⟩
   rw [eG.out] at hO hTl HO1
   obtain ⟨nx,enx⟩:∃ nx:Nat,Hid (X.length=nx):=⟨X.length,(show _=_ from rfl)⟩
   rw [enx.out] at hm hTl HN
   have HO2:Hid (∀ v W,w.heap.size≤W.heap.size→OwnN w.heap.size v G wr→Below wr.heap.size wr W→OwnN w.heap.size v G W):=fun v W h1 h2 h3=>h2.bel h3
   go_wp2_with fail
   refine (CA.out _ _ _ _ _ _ _ _ _).mono ?_
   rintro e w2 ⟨rfl,hb2⟩
   have B2:Below w.heap.size w w2:=hB.trans (hb2.mono hB.size)
   have O2:Hid (OwnN w.heap.size u3 G w2):=hO.out.bel hb2
   have HX2:Hid (SrcA w2 1 (.slice pb nx cb) nx (X.map Value.string)):=HN.out w2 B2
   have hfd:=fld_bare
   have hK:=B2.size
   have HK:Hid (∀ q,u3.ownBlock=some q→w.heap.size≤q):=fun q hq=>(World.ownsRow.lt O2.out q hq).1
   clear hb2 a0 hm hO HO2 HN
   go_wp2_with (at_builtin;refine wpList_append_srcA rfl (.tmp 12) (.tmp 15) 22 rfl w.heap.size 9 i0 _ 1 16 Tryz.underlying22 hi hz0 hz1 hz2 rfl (by decide) _ _ _ rfl O2.out _ nx (X.map Value.string) rfl HX2.out (by intro u hu;obtain ⟨y, -,rfl⟩:=List.mem_map.1 hu;rfl) (by unfold maxLen;omega) (by omega) hK ?grow)
   case grow=>
    intro v' w3 h2 h3 _
    have O3:Hid (OwnN w.heap.size v' (F.take (k+1)).flatten w3):=by
     show OwnN _ _ _ _
     rw [HO1.out]
     unfold OwnN
     rw [List.length_append,List.map_append,enx.out]
     exact h2
    have B3:Below w.heap.size w w3:=B2.grown h3 hK HK.out
    clear h2 h3 HX2 O2 HK
    go_wp2
    exact ⟨⟨k+1,by omega,by go_num,O3,B3⟩,by simp [intOf];omega⟩
  ·have c2:¬ (k:Int)<n:=by omega
   have hl2:G0.length≤1000000000:=by
    have h:=HT.out F.length
    rw [List.take_length,eG0.out] at h
    exact h
   have O3:Hid (OwnN w.heap.size u3 G0 wr):=by
    have h:=hO.out
    rwa [List.take_of_length_le (by have:=en.out;have:=HL0.out;omega),eG0.out] at h
   have HN1:Hid (NmsAt wr u3 G0):=O3.out.nms (by omega)
   have hz1':=hB.size
   obtain ⟨p1,c1,rfl, -⟩:=HN1.out.form
   have HU:Hid (∀ (W:World) (b:Nat),Below wr.heap.size wr W→b<W.heap.size→W.cell? ⟨b,0,none⟩=some (.slice p1 G0.length c1)→Calls Tryz.prog 89 #[.slice (some ⟨b,0,none⟩) 1 1] W fun e w'=>∃ v,e=.returned v∧OwnN W.heap.size v (uniN [G0]) w'∧Below W.heap.size W w'):=fun W b h1 h2 h3=>by
    refine sunion_any _ [.slice p1 G0.length c1] [G0] W ⟨rfl,_,_,rfl,fun k hk=> ?_,fun k hk ky=> ?_⟩ (by simp;omega) (by simp)
    ·have:k=0:=by simp at hk;omega
     subst this;exact ⟨b,0,rfl,h2,h3⟩
    ·have:k=0:=by simp at hk;omega
     subst this;exact HN1.out.below h1
   clear hO O3 HTK HT
   go_wp2_with fail
   refine (HU.out _ wr.heap.size ((Below.refl _ _).alloc (Nat.le_refl _) _) (by simp) (by simp [go_sem])).mono ?_
   rintro r w2 ⟨v2,rfl,hO2,hb2⟩
   have hB2:Below w.heap.size w w2:=(hB.alloc hz1' _).trans (hb2.mono (by simp;omega))
   have HO3:Hid (OwnN w.heap.size v2 (uniN [G0]) w2):=own_monoB hO2 (by simp;omega)
   clear hO2 hb2 HU
   go_wp2
   go_ret
   exact ⟨_,rfl,HO3.out,hB2⟩
theorem ta_fx_neg (a:Bool) (r:Int) (pv pb:Option Addr) (nv nb cv cb:Nat) (w:World):(Instr.typeAssert (.iface 48 (.agg #[.slice pv nv cv,.bool a,.int .i64 r,.slice pb nb cb])) 55 83 true).run Tryz.prog w=.ok (.tuple #[(.agg #[.slice none 0 0,.bool false,.int .i64 0,.slice none 0 0,.nilIface]),.bool false]) w:=by kernel_rfl
theorem ta_fx_cmp (a:Bool) (r:Int) (pv pb:Option Addr) (nv nb cv cb:Nat) (w:World):(Instr.typeAssert (.iface 48 (.agg #[.slice pv nv cv,.bool a,.int .i64 r,.slice pb nb cb])) 55 85 true).run Tryz.prog w=.ok (.tuple #[(.agg #[.slice none 0 0,.bool false,.int .i64 0,.slice none 0 0,.int .i64 0,.int .i64 0,.string ByteArray.empty,.int .i64 0,.int .i64 0,.int .i64 0,.string ByteArray.empty,.slice none 0 0,.int .i64 0,.string ByteArray.empty,.int .i64 0,.int .i64 0,.int .i64 0,.string ByteArray.empty,.slice none 0 0]),.bool false]) w:=by kernel_rfl
theorem ta_neg_neg (a:Bool) (r:Int) (pv pb:Option Addr) (nv nb cv cb:Nat) (T:TypeId) (vv:Value) (w:World):(Instr.typeAssert (.iface 83 (.agg #[.slice pv nv cv,.bool a,.int .i64 r,.slice pb nb cb,.iface T vv])) 55 83 true).run Tryz.prog w=.ok (.tuple #[(.agg #[.slice pv nv cv,.bool a,.int .i64 r,.slice pb nb cb,.iface T vv]),.bool true]) w:=by kernel_rfl
theorem ta_neg_cmp (a:Bool) (r:Int) (pv pb:Option Addr) (nv nb cv cb:Nat) (T:TypeId) (vv:Value) (w:World):(Instr.typeAssert (.iface 83 (.agg #[.slice pv nv cv,.bool a,.int .i64 r,.slice pb nb cb,.iface T vv])) 55 85 true).run Tryz.prog w=.ok (.tuple #[(.agg #[.slice none 0 0,.bool false,.int .i64 0,.slice none 0 0,.int .i64 0,.int .i64 0,.string ByteArray.empty,.int .i64 0,.int .i64 0,.int .i64 0,.string ByteArray.empty,.slice none 0 0,.int .i64 0,.string ByteArray.empty,.int .i64 0,.int .i64 0,.int .i64 0,.string ByteArray.empty,.slice none 0 0]),.bool false]) w:=by kernel_rfl
theorem ta_cmp_neg (a:Bool) (r:Int) (pv pb:Option Addr) (nv nb cv cb:Nat) (k tk t1 t2 t3 uk u1 u2 u3:Int) (tn ts un us:ByteArray) (pt pu:Option Addr) (nt nu ct cu:Nat) (w:World):(Instr.typeAssert (.iface 85 (.agg #[.slice pv nv cv,.bool a,.int .i64 r,.slice pb nb cb,.int .i64 k,.int .i64 tk,.string tn,.int .i64 t1,.int .i64 t2,.int .i64 t3,.string ts,.slice pt nt ct,.int .i64 uk,.string un,.int .i64 u1,.int .i64 u2,.int .i64 u3,.string us,.slice pu nu cu])) 55 83 true).run Tryz.prog w=.ok (.tuple #[(.agg #[.slice none 0 0,.bool false,.int .i64 0,.slice none 0 0,.nilIface]),.bool false]) w:=by kernel_rfl
theorem ta_cmp_cmp (a:Bool) (r:Int) (pv pb:Option Addr) (nv nb cv cb:Nat) (k tk t1 t2 t3 uk u1 u2 u3:Int) (tn ts un us:ByteArray) (pt pu:Option Addr) (nt nu ct cu:Nat) (w:World):(Instr.typeAssert (.iface 85 (.agg #[.slice pv nv cv,.bool a,.int .i64 r,.slice pb nb cb,.int .i64 k,.int .i64 tk,.string tn,.int .i64 t1,.int .i64 t2,.int .i64 t3,.string ts,.slice pt nt ct,.int .i64 uk,.string un,.int .i64 u1,.int .i64 u2,.int .i64 u3,.string us,.slice pu nu cu])) 55 85 true).run Tryz.prog w=.ok (.tuple #[(.agg #[.slice pv nv cv,.bool a,.int .i64 r,.slice pb nb cb,.int .i64 k,.int .i64 tk,.string tn,.int .i64 t1,.int .i64 t2,.int .i64 t3,.string ts,.slice pt nt ct,.int .i64 uk,.string un,.int .i64 u1,.int .i64 u2,.int .i64 u3,.string us,.slice pu nu cu]),.bool true]) w:=by kernel_rfl
theorem PtV.lens {w:World} {u:Value} {P:Pt} (h:PtV w u P):∃ T vv,u=.iface T vv:=by
 obtain ⟨T,vv,pv,pb,cv,cb,h, -⟩:=h.abt
 exact ⟨T,vv,h⟩
theorem underNot_any (P:Pt) (u:Value) (w:World) (h:PtV w u P):
  Calls Tryz.prog 113 #[u] w fun e w'=>∃ v,e=.returned (.tuple #[v,.bool (under P).2])∧PtV w v (under P).1∧Below w.heap.size w w':=by
 have H0:Hid (PtV w u P):=h
 cases h with
 | @fx x uv ub hv hb=>
  obtain ⟨pv,cv,rfl, -⟩:=hv.form
  obtain ⟨pb,cb,rfl, -⟩:=hb.form
  generalize x.vars.length=nv at*
  generalize x.bare.length=nb at*
  have R:Hid (∀ Q:Value→Prop,Q (.iface 48 (.agg #[.slice pv nv cv,.bool x.acc,.int .i64 x.reach,.slice pb nb cb]))→∃ v,Q v):=fun Q q=>⟨_,q⟩
  clear hv hb
  have hta:=ta_fx_neg
  go_enter Tryz.func113,Tryz.ntmps113
  go_wp2
  refine bodyPost_ret (by simp [results,Tryz.results113,go_sem];try rfl) rfl ?_
  exact ⟨_,rfl,H0.out,by go_grown⟩
 | @neg x o uv ub ov hv hb ho=>
  obtain ⟨pv,cv,rfl, -⟩:=hv.form
  obtain ⟨pb,cb,rfl, -⟩:=hb.form
  obtain ⟨T,vv,rfl⟩:=ho.lens
  have HO:Hid (PtV w (.iface T vv) o):=ho
  generalize x.vars.length=nv at*
  generalize x.bare.length=nb at*
  clear hv hb H0 ho
  have hta:=ta_neg_neg
  go_enter Tryz.func113,Tryz.ntmps113
  go_wp2
  refine bodyPost_ret (by simp [results,Tryz.results113,go_sem];try rfl) rfl ?_
  exact ⟨_,rfl,HO.out,by go_grown⟩
 | @cmp x k a b uv ub ua uc hv hb h3 h4 h5 h6=>
  obtain ⟨pv,cv,rfl, -⟩:=hv.form
  obtain ⟨pb,cb,rfl, -⟩:=hb.form
  obtain ⟨pa,ca,rfl, -⟩:=h3.form
  obtain ⟨pc,cc,rfl, -⟩:=h4.form
  generalize x.vars.length=nv at*
  generalize x.bare.length=nb at*
  clear hv hb h3 h4 h5 h6
  have hta:=ta_cmp_neg
  go_enter Tryz.func113,Tryz.ntmps113
  go_wp2
  refine bodyPost_ret (by simp [results,Tryz.results113,go_sem];try rfl) rfl ?_
  exact ⟨_,rfl,H0.out,by go_grown⟩
theorem isNot_any (P:Pt) (u:Value) (w:World) (h:PtV w u P):
  Calls Tryz.prog 115 #[u] w fun e w'=>e=.returned (.bool (under P).2)∧Below w.heap.size w w':=by
 have cU:Hid (Calls Tryz.prog 113 #[u] w fun e w'=>∃ v,e=.returned (.tuple #[v,.bool (under P).2])∧PtV w v (under P).1∧Below w.heap.size w w'):=underNot_any P u w h
 obtain ⟨T,vv,rfl⟩:=h.lens
 clear h
 generalize (under P).2=N at*
 generalize (under P).1=O at*
 go_enter Tryz.func115,Tryz.ntmps115
 go_wp2_with fail
 refine cU.out.mono ?_
 rintro e w1 ⟨v,rfl, -,hb⟩
 clear cU
 go_wp2
 go_ret
 exact ⟨rfl,hb⟩
theorem isHeld_any (P O:Pt) (u v:Value) (w:World) (hu:PtV w u P) (hv:PtV w v O):
  Calls Tryz.prog 83 #[u,v] w fun e w'=>e=.returned (.bool (heldP P O))∧Below w.heap.size w w':=by
 have cU:Hid (Calls Tryz.prog 113 #[u] w fun e w'=>∃ v,e=.returned (.tuple #[v,.bool (under P).2])∧PtV w v (under P).1∧Below w.heap.size w w'):=underNot_any P u w hu
 have CA:Hid (∀ (a:Bool) (r:Int) (pv pb:Option Addr) (nv nb cv cb:Nat) (W:World),Calls Tryz.prog 197 #[.agg #[.slice pv nv cv,.bool a,.int .i64 r,.slice pb nb cb]] W fun e w'=>e=.returned (.agg #[.slice pv nv cv,.bool a,.int .i64 r,.slice pb nb cb])∧Below W.heap.size W w'):=fun a r pv pb nv nb cv cb W=>about_fx (.bool true) (.bool true) a r pv pb nv nb cv cb W
 have cA:Hid (∀ (W:World) (X Y:Value),NmsAt W X (under P).1.about.vars→NmsAt W Y O.about.vars→Calls Tryz.prog 47 #[X,Y] W fun e w'=>e=.returned (.bool (amg (under P).1.about.vars O.about.vars))∧Below W.heap.size W w'):=fun W X Y h1 h2=>amg_any _ _ X Y W h1 h2
 have hR:Hid (heldP P O=((under P).1.about.acc && (O.about.acc && amg (under P).1.about.vars O.about.vars))):=(show _=_ from rfl)
 obtain ⟨RR,eRR⟩:∃ RR:Bool,Hid (heldP P O=RR):=⟨_,rfl⟩
 rw [eRR.out]
 have HRR:Hid (RR=((under P).1.about.acc && (O.about.acc && amg (under P).1.about.vars O.about.vars))):=eRR.out.symm.trans hR.out
 clear eRR
 obtain ⟨T,vv,rfl⟩:=hu.lens
 obtain ⟨T2,vv2,pv2,pb2,cv2,cb2,rfl,hv2,hb2,hm2⟩:=hv.abt
 clear hu hv hR hb2
 generalize (under P).2=N at*
 generalize (under P).1=G at*
 have HV2:Hid (NmsAt w (.slice pv2 O.about.vars.length cv2) O.about.vars):=hv2
 clear hv2
 go_enter Tryz.func83,Tryz.ntmps83
 go_wp2_with fail
 refine cU.out.mono ?_
 rintro e w1 ⟨v,rfl,hG,hB1⟩
 obtain ⟨T1,vv1,pv1,pb1,cv1,cb1,rfl,hv1,hb1,hm1⟩:=hG.abt
 have HV1:Hid (NmsAt w (.slice pv1 G.about.vars.length cv1) G.about.vars):=hv1
 have cA1:Hid (∀ W:World,Below w.heap.size w W→Calls Tryz.prog 47 #[.slice pv1 G.about.vars.length cv1,.slice pv2 O.about.vars.length cv2] W fun e w'=>e=.returned (.bool (amg G.about.vars O.about.vars))∧Below W.heap.size W w'):=fun W hW=>cA.out W _ _ (HV1.out.below hW) (HV2.out.below hW)
 clear cU hG hv1 hb1 cA HV1 HV2
 generalize amg G.about.vars O.about.vars=R at*
 generalize G.about.vars.length=n1 at*
 generalize O.about.vars.length=n2 at*
 generalize G.about.bare.length=b1 at*
 generalize O.about.bare.length=b2 at*
 generalize G.about.acc=A1 at*
 generalize O.about.acc=A2 at*
 generalize G.about.reach=r1 at*
 generalize O.about.reach=r2 at*
 have hfd:=fld_acc
 have hfd2:=fld_vars
 go_wp2_with fail
 refine (CA.out _ _ _ _ _ _ _ _ _).mono ?_
 rintro e w2 ⟨rfl,hb2⟩
 have hB2:Below w.heap.size w w2:=hB1.trans (hb2.mono hB1.size)
 clear hb2
 cases A1 with
 | false=>
  clear CA cA1
  go_wp2
  go_ret
  exact ⟨by rw [HRR.out];simp,hB2⟩
 | true=>
  go_wp2_with fail
  refine (CA.out _ _ _ _ _ _ _ _ _).mono ?_
  rintro e w3 ⟨rfl,hb3⟩
  have hB3:Below w.heap.size w w3:=hB2.trans (hb3.mono hB2.size)
  clear hb3
  cases A2 with
  | false=>
   clear CA cA1
   go_wp2
   go_ret
   exact ⟨by rw [HRR.out];simp,hB3⟩
  | true=>
   go_wp2_with fail
   refine (CA.out _ _ _ _ _ _ _ _ _).mono ?_
   rintro e w4 ⟨rfl,hb4⟩
   have hB4:Below w.heap.size w w4:=hB3.trans (hb4.mono hB3.size)
   clear hb4
   go_wp2_with fail
   refine (CA.out _ _ _ _ _ _ _ _ _).mono ?_
   rintro e w5 ⟨rfl,hb5⟩
   have hB5:Below w.heap.size w w5:=hB4.trans (hb5.mono hB4.size)
   clear hb5
   go_wp2_with fail
   refine (cA1.out _ hB5).mono ?_
   rintro e w6 ⟨rfl,hb6⟩
   have hB6:Below w.heap.size w w6:=hB5.trans (hb6.mono hB5.size)
   clear hb6
   go_wp2
   go_ret
   exact ⟨by rw [HRR.out];simp,hB6⟩
end Go.Proofs.YthodedagbbifbaaGreat
namespace Go.Proofs.YthodedagbbifbaaGreat
open Go.RowKit Go.Sort
set_option linter.unusedVariables false
def rw' {α:Type}:Result α→World
 | .ok _ w=>w
 | .halt _ w=>w
theorem ask_mono {α:Type} (a:Ask α):∀ w:World,w.drawn≤(w.ask a).2.drawn:=by
 induction a with
 | done a=>intro w;exact Nat.le_refl _
 | ask what range k ih=>
  intro w
  unfold World.ask
  dsimp only
  split
  ·exact ih _ _
  ·exact Nat.le_trans (Nat.le_succ _) (ih _ {w with drawn:=w.drawn+1})
theorem sys_mono (w:World) (c:Sys):w.drawn≤(w.sys c).2.drawn:=by
 have h:=ask_mono (Kernel.perform c w.os) w
 unfold World.sys
 split
 ·exact Nat.le_refl _
 ·rename_i e;rw [e] at h;exact h
theorem store_mono {p:Program} {w w':World} {a:Addr} {v:Value} {b:Bool} {l:List Addr} (h:w.farStore p a v b=.ok (w',l)):w.drawn≤w'.drawn:=by
 unfold World.farStore at h
 split at h
 ·split at h
  ·rename_i at_ u _ r hr
   injection h with h
   subst h
   unfold World.viewStore at hr
   simp only [bind,Except.bind,pure,Except.pure] at hr
   repeat' (split at hr)
   all_goals first
    | (injection hr with hr;injection hr with hr _;subst hr;exact Nat.le_refl _)
    | cases hr
  ·cases h
 ·cases h
theorem freeze_mono (w:World) (a:Addr) (n:Nat):(w.freeze a n).drawn=w.drawn:=by
 unfold World.freeze
 repeat' split
 all_goals rfl
theorem run_mono {α:Type} (p:Program) (s:Sem α):∀ w:World,w.drawn≤(rw' (s.run p w)).drawn:=by
 induction s with
 | pure a=>intro w;exact Nat.le_refl _
 | load m a k ih=>
  intro w
  simp only [Sem.run]
  split
  ·exact ih _ _
  ·split
   ·exact ih _ _
   ·exact Nat.le_refl _
 | store m a v k ih=>
  intro w
  cases v<;>simp only [Sem.run]<;>(try exact Nat.le_refl _)
  all_goals
   split
   ·split
    ·exact Nat.le_refl _
    ·exact ih (w.setCell a _)
   ·split
    ·rename_i hs;exact Nat.le_trans (store_mono hs) (ih _)
    ·exact Nat.le_refl _
 | new o k ih=>intro w;exact ih _ {w with heap:=w.heap.push o}
 | shape r k ih=>intro w;exact ih _ _
 | freeze a n k ih=>intro w;have h:=ih (w.freeze a n);rw [freeze_mono] at h;exact h
 | frozen a k ih=>intro w;exact ih _ _
 | getObj r k ih=>
  intro w
  simp only [Sem.run]
  split
  all_goals first | exact Nat.le_refl _ | exact ih _ _
 | setObj r o k ih=>
  intro w
  simp only [Sem.run]
  split
  all_goals first | exact Nat.le_refl _ | exact ih {w with heap:=w.heap.setIfInBounds r o}
 | choose q k ih=>
  intro w
  simp only [Sem.run]
  split
  ·exact ih _ _
  ·exact Nat.le_trans (Nat.le_succ _) (ih _ {w with drawn:=w.drawn+1})
 | sys c k ih=>intro w;exact Nat.le_trans (sys_mono w c) (ih _ _)
 | program k ih=>intro w;exact ih _ _
 | mark m k ih=>intro w;exact ih _
 | halt h=>intro w;exact Nat.le_refl _
theorem runT_mono {α:Type} (p:Program) (s:Sem α):∀ (w:World) (es:Array Event),w.drawn≤(rw' (s.runT p w es).1).drawn:=by
 induction s with
 | pure a=>intro w es;exact Nat.le_refl _
 | load m a k ih=>
  intro w es
  simp only [Sem.runT]
  split
  ·exact ih _ _ _
  ·split
   ·exact ih _ _ _
   ·exact Nat.le_refl _
 | store m a v k ih=>
  intro w es
  cases v<;>simp only [Sem.runT]<;>(try exact Nat.le_refl _)
  all_goals
   split
   ·split
    ·exact Nat.le_refl _
    ·exact ih (w.setCell a _) _
   ·split
    ·rename_i hs;exact Nat.le_trans (store_mono hs) (ih _ _)
    ·exact Nat.le_refl _
 | new o k ih=>intro w es;exact ih _ {w with heap:=w.heap.push o} _
 | shape r k ih=>intro w es;exact ih _ _ _
 | freeze a n k ih=>intro w es;have h:=ih (w.freeze a n) es;rw [freeze_mono] at h;exact h
 | frozen a k ih=>intro w es;exact ih _ _ _
 | getObj r k ih=>
  intro w es
  simp only [Sem.runT]
  split
  all_goals first | exact Nat.le_refl _ | exact ih _ _ _
 | setObj r o k ih=>
  intro w es
  simp only [Sem.runT]
  split
  all_goals first | exact Nat.le_refl _ | exact ih {w with heap:=w.heap.setIfInBounds r o} _
 | choose q k ih=>
  intro w es
  simp only [Sem.runT]
  split
  ·exact ih _ _ _
  ·exact Nat.le_trans (Nat.le_succ _) (ih _ {w with drawn:=w.drawn+1} _)
 | sys c k ih=>intro w es;exact Nat.le_trans (sys_mono w c) (ih _ _ _)
 | program k ih=>intro w es;exact ih _ _ _
 | mark m k ih=>intro w es;exact ih _ _
 | halt h=>intro w es;exact Nat.le_refl _
theorem run_ok {α:Type} {p:Program} {s:Sem α} {w w1:World} {a:α} (e:s.run p w=.ok a w1):w.drawn≤w1.drawn:=by
 have h:=run_mono p s w
 rw [e] at h
 exact h
theorem run_halt {α:Type} {p:Program} {s:Sem α} {w w1:World} {a:Halt} (e:s.run p w=.halt a w1):w.drawn≤w1.drawn:=by
 have h:=run_mono p s w
 rw [e] at h
 exact h
theorem runT_ok {α:Type} {p:Program} {s:Sem α} {w w1:World} {a:α} {es es':Array Event} (e:s.runT p w es=(.ok a w1,es')):w.drawn≤w1.drawn:=by
 have h:=runT_mono p s w es
 rw [e] at h
 exact h
theorem runT_halt {α:Type} {p:Program} {s:Sem α} {w w1:World} {a:Halt} {es es':Array Event} (e:s.runT p w es=(.halt a w1,es')):w.drawn≤w1.drawn:=by
 have h:=runT_mono p s w es
 rw [e] at h
 exact h
theorem runT1_ok {α:Type} {p:Program} {s:Sem α} {w w1:World} {a:α} {es:Array Event} (e:(s.runT p w es).1=.ok a w1):w.drawn≤w1.drawn:=by
 have h:=runT_mono p s w es
 rw [e] at h
 exact h
theorem runT1_halt {α:Type} {p:Program} {s:Sem α} {w w1:World} {a:Halt} {es:Array Event} (e:(s.runT p w es).1=.halt a w1):w.drawn≤w1.drawn:=by
 have h:=runT_mono p s w es
 rw [e] at h
 exact h
def gw:GStep→World
 | .go _ w _=>w
 | .comm _ _ _ _ w _=>w
 | .spawn _ _ w _=>w
 | .count _ w _=>w
 | .timer _ _ w _=>w
 | .alone _ _ w _=>w
 | .newcoro _ _ _ w _=>w
 | .coroswitch _ _ _ w _=>w
 | .collect _ w _=>w
 | .watch _ w _=>w
 | .ended _ w _=>w
theorem gw_after (es:Array Event) (g:GStep):gw (GStep.after es g)=gw g:=by cases g<;>rfl
theorem return_mono (p:Program) (main:Bool) (fr:Frame) (cs:List Frame) (d:Option Dying) (v:Value) (w:World):gw (doReturn p main fr cs d v w)=w:=by
 unfold doReturn
 repeat' split
 all_goals rfl
theorem throw_mono (fr:Frame) (m:String) (w:World):gw (endThrow fr m w)=w:=rfl
theorem printing_mono (p:Program) (fr:Frame) (v:Value) (w:World):gw (endPrinting p fr v w)=w:=by
 unfold endPrinting
 dsimp only
 split<;>rfl
theorem fatal_mono (p:Program) (fr:Frame) (cs:List Frame) (d:Option Dying) (m:String) (w:World):w.drawn≤(gw (endFatal p fr cs d m w)).drawn:=by
 unfold endFatal
 dsimp only
 split<;>rename_i e<;>first | exact run_ok e | exact run_halt e
theorem with_mono (w:World) (fd:Nat) (t:ByteArray) (o:Outcome):w.drawn≤(gw (endWith w fd t o)).drawn:=by
 unfold endWith
 dsimp only
 have h:=sys_mono w (.write fd t)
 split<;>rename_i e<;>rw [e] at h
 ·split<;>exact h
 ·exact h
 ·exact h
theorem write_mono (p:Program) (fr:Frame) (d:Dying) (f:Fatal) (w:World):w.drawn≤(gw (writeOn p fr d f w)).drawn:=by
 unfold writeOn
 dsimp only
 split
 ·exact Nat.le_refl _
 ·split<;>rename_i e<;>first | exact runT_ok e | exact runT_halt e
theorem die_mono (p:Program) (fr:Frame) (d:Dying) (w:World):w.drawn≤(gw (die p fr d w)).drawn:=by
 unfold die
 split
 ·exact write_mono _ _ _ _ _
 ·split
  ·split
   ·exact Nat.le_refl _
   ·exact with_mono _ _ _ _
  ·dsimp only
   split
   ·exact Nat.le_refl _
   ·rename_i s _
    have h:=run_mono p (withAddress s) w
    split<;>rename_i e<;>rw [e] at h<;>exact h
   ·rw [gw_after]
    split<;>rename_i e<;>(try rw [printing_mono])<;>first | exact runT1_ok e | exact runT1_halt e | exact Nat.le_refl _
   ·exact Nat.le_refl _
theorem ite_le {n:Nat} {c:Prop} [Decidable c] {a b:GStep} (h1:n≤(gw a).drawn) (h2:n≤(gw b).drawn):n≤(gw (if c then a else b)).drawn:=by split<;>assumption
theorem deferred_mono (p:Program) (fr:Frame) (cs:List Frame) (dy:Option Dying) (d:Deferred) (w:World):w.drawn≤(gw (callDeferred p fr cs dy d w)).drawn:=by
 unfold callDeferred
 refine ite_le ?_ ?_
 ·exact Nat.le_refl _
 ·dsimp only
  rw [gw_after]
  split<;>rename_i e<;>(try split)<;>first | exact runT1_ok e | exact runT1_halt e | exact Nat.le_trans (runT1_halt e) (fatal_mono _ _ _ _ _ _) | skip
  all_goals first | (rename_i e _;exact runT1_ok e) | (rename_i e _ _;exact runT1_ok e) | skip
theorem unwind_mono (p:Program) (main:Bool) (fr:Frame) (cs:List Frame) (dy:Option Dying) (w:World):w.drawn≤(gw (unwind p main fr cs dy w)).drawn:=by
 unfold unwind
 split
 ·dsimp only
  rw [gw_after]
  split<;>rename_i e<;>first | exact runT1_ok e | exact runT1_halt e
 ·exact deferred_mono _ _ _ _ _ _
 ·split
  ·exact Nat.le_refl _
  ·split
   ·exact Nat.le_refl _
   ·split
    ·exact Nat.le_refl _
    ·split
     ·split
      ·exact Nat.le_refl _
      ·split<;>rename_i e<;>first | exact run_ok e | exact run_halt e
     ·split
      ·rw [printing_mono];exact Nat.le_refl _
      ·exact Nat.le_refl _
  ·split
   ·rw [return_mono];exact Nat.le_refl _
   ·dsimp only
    rw [gw_after]
    split<;>rename_i e<;>(try rw [return_mono])<;>first | exact runT1_ok e | exact runT1_halt e
theorem early_mono (p:Program) (fr:Frame) (cs:List Frame) (dy:Option Dying) (g:Nat) (w:World):w.drawn≤(gw (early p fr cs dy g w)).drawn:=by
 unfold early
 dsimp only
 repeat' split
 all_goals first
  | exact Nat.le_refl _
  | (rename_i e;first | exact Nat.le_trans (run_ok e) (Nat.le_refl _) | exact run_halt e)
  | (rename_i e _;first | exact Nat.le_trans (run_ok e) (Nat.le_refl _) | exact run_halt e)
  | (rename_i e _ _;first | exact Nat.le_trans (run_ok e) (Nat.le_refl _) | exact run_halt e)
  | (rename_i e _ _ _;first | exact Nat.le_trans (run_ok e) (Nat.le_refl _) | exact run_halt e)
  | (rename_i e _ _ _ _;first | exact Nat.le_trans (run_ok e) (Nat.le_refl _) | exact run_halt e)
theorem apply_mono (p:Program) (main li:Bool) (fr:Frame) (cs:List Frame) (dy:Option Dying) (s:Sem Next) (w:World):w.drawn≤(gw (stepG.apply p li fr cs dy s w)).drawn:=by
 unfold stepG.apply
 dsimp only
 rw [gw_after]
 have h:∀ r es,(if li=true then s.runT p w #[] else (s.run p w,#[]))=(r,es)→w.drawn≤(rw' r).drawn:=by
  intro r es e
  split at e
  ·have h:=runT_mono p s w #[];rw [e] at h;exact h
  ·injection e with e1 e2;rw [← e1];exact run_mono p s w
 generalize hR:(if li=true then s.runT p w #[] else (s.run p w,#[]))=R at h
 obtain ⟨r,es⟩:=R
 have h:=h r es rfl
 clear hR
 dsimp only
 split<;>(try split)<;>(try split)<;>(try rw [throw_mono])<;>first
  | exact h
  | exact Nat.le_trans h (fatal_mono _ _ _ _ _ _)
  | exact Nat.le_trans h (early_mono _ _ _ _ _ _)
  | skip
theorem oper_mono (p:Program) (main li:Bool) (fr:Frame) (cs:List Frame) (dy:Option Dying) (w:World):w.drawn≤(gw (stepG.oper p li fr cs dy w)).drawn:=by
 unfold stepG.oper
 split
 ·exact Nat.le_refl _
 ·split<;>exact apply_mono p main _ _ _ _ _ _
theorem opt_le {α:Type} {n:Nat} (o:Option α) (a:GStep) (f:α→GStep) (h1:n≤(gw a).drawn) (h2:∀ x,n≤(gw (f x)).drawn):n≤(gw (o.elim a f)).drawn:=by
 cases o with
 | none=>exact h1
 | some x=>exact h2 x
theorem exec_mono (p:Program) (main li:Bool) (fr:Frame) (cs:List Frame) (dy:Option Dying) (w:World):w.drawn≤(gw (stepG.exec p main li fr cs dy w)).drawn:=by
 unfold stepG.exec
 dsimp only
 split
 all_goals (try exact Nat.le_refl _)
 all_goals (try exact apply_mono p main _ _ _ _ _ _)
 all_goals (try refine opt_le _ _ _ ?_ ?_)
 all_goals (try intro _)
 all_goals (try exact Nat.le_refl _)
 all_goals (try exact apply_mono p main _ _ _ _ _ _)
 all_goals (try split)
 all_goals (try exact Nat.le_refl _)
 all_goals (try exact oper_mono p main _ _ _ _ _)
 all_goals (try rw [gw_after])
 all_goals (try split)
 all_goals (try exact Nat.le_refl _)
 all_goals (try rw [return_mono])
 all_goals (try (rename_i e;first | exact runT1_ok e | exact runT1_halt e | exact run_ok e | exact run_halt e | exact Nat.le_trans (runT1_ok e) (apply_mono p main _ _ _ _ _ _)))
theorem stepG_mono (p:Program) (main li:Bool) (g:Goroutine) (w:World):w.drawn≤(gw (stepG p main g w li)).drawn:=by
 unfold stepG
 dsimp only
 split
 ·exact die_mono _ _ _ _
 ·exact exec_mono _ _ _ _ _ _ _
 ·exact unwind_mono _ _ _ _ _ _
def sok (n:Nat):Stepped→Prop
 | .next m=>n≤m.world.drawn
 | .ended _ _=>True
theorem look_mono (p:Program) (gs:Array Goroutine) (rest:Rest) (w:World):sok w.drawn (look p gs rest w):=by
 unfold look
 split
 ·dsimp only
  split
  ·trivial
  ·split
   ·trivial
   ·split
    ·rename_i e;exact Nat.le_trans (run_ok e) (Nat.le_refl _)
    ·trivial
    ·trivial
 ·trivial
theorem comm_mono (p:Program) (rest:Rest) (gs:Array Goroutine) (i:Nat) (g:Goroutine) (cases':Array CommCase) (bl:Bool) (sh:CommShape) (w:World):sok w.drawn (communicate p rest gs i g cases' bl sh w).1:=by
 unfold communicate
 dsimp only
 split
 ·trivial
 ·split
  ·split
   ·split
    ·rename_i e
     unfold waitingAt at e
     split at e
     ·split at e
      ·injection e with e;rw [← e];exact Nat.le_refl _
      ·cases e
     ·injection e with e;rw [← e];exact Nat.le_refl _
    ·trivial
   ·exact Nat.le_refl _
  ·split
   ·trivial
   ·rename_i e
    have h:=run_ok e
    split
    ·split
     ·rename_i e2;exact Nat.le_trans h (run_halt e2)
     ·trivial
    ·exact h
    ·exact h
    ·split
     ·exact h
     ·split
      ·rename_i e2;exact Nat.le_trans h (Nat.le_trans (run_ok e2) (Nat.le_refl _))
      ·trivial
    ·exact h
    ·exact h
    ·trivial
theorem drain_mono (w:World) (c:Nat):(drain w c).2.drawn=w.drawn:=by
 unfold drain
 split<;>rfl
theorem retime_mono (m:Machine) (k:Nat) (t:Timer) (a b:Nat):(retime m k t a b).2.world.drawn=m.world.drawn:=by
 unfold retime
 dsimp only
 split
 ·exact drain_mono _ _
 ·rfl
theorem named_mono {m m1 m':Machine} {var:Addr} {v:Value} {f:Nat→Timer→Nat×Nat} (h:timerOp.named m var (fun k t=>retime m1 k t (f k t).1 (f k t).2)=.ok (v,m')):m1.world.drawn=m'.world.drawn:=by
 unfold timerOp.named at h
 split at h
 ·injection h with h
  dsimp only at h
  have e:=congrArg (fun r:Value×Machine=>r.2.world.drawn) h
  dsimp only at e
  rw [retime_mono] at e
  exact e
 ·cases h
theorem timer_mono (m:Machine) (op:TimerOp) (v:Value) (m':Machine) (h:timerOp m op=.ok (v,m')):m.world.drawn=m'.world.drawn:=by
 unfold timerOp at h
 split at h
 ·split at h
  ·injection h with h;injection h with _ h;rw [← h];rfl
  ·split at h
   ·split at h
    ·cases h
    ·injection h with h;injection h with _ h;rw [← h]
   ·cases h
 ·exact named_mono (f:=fun k t=>(0,t.period)) h
 ·split at h
  ·rename_i m1 e
   have h2:=named_mono (f:=fun k t=>(_,_)) h
   unfold timerOp.opened at e
   split at e
   ·split at e
    ·injection e with e;rw [← e] at h2;exact h2
    ·cases e
   ·injection e with e;rw [← e] at h2;exact h2
  ·cases h
 ·injection h with h;injection h with _ h;rw [← h];rfl
theorem serve_mono (p:Program) (m:Machine) (k:Nat):sok m.world.drawn (serve p m k):=by
 unfold serve
 split
 ·trivial
 ·exact Nat.le_refl _
 ·dsimp only
  split
  ·trivial
  ·exact Nat.le_refl _
def mok (n:Nat):Move→Prop
 | .goroutine m _=>n≤m.world.drawn
 | .machine s _=>sok n s
theorem sok_le {n k:Nat} {s:Stepped} (h:n≤k) (hs:sok k s):sok n s:=by
 cases s with
 | next m=>exact Nat.le_trans h hs
 | ended _ _=>trivial
theorem askOn_mono (p:Program) (m:Machine):mok m.world.drawn (askOn p m):=by
 unfold askOn
 dsimp only
 split
 ·trivial
 ·rename_i e
  have h:=run_ok e
  split
  ·exact sok_le h (serve_mono p _ _)
  ·split
   ·split
    ·exact h
    ·split
     ·exact h
     ·split<;>trivial
   ·split
    ·split
     ·trivial
     ·rename_i e2
      have h2:=Nat.le_trans h (run_ok e2)
      split
      ·exact h2
      ·split
       ·trivial
       ·rename_i e3;exact Nat.le_trans h2 (Nat.le_trans (run_ok e3) (Nat.le_refl _))
    ·split
     ·trivial
     ·rename_i e2
      have h2:=Nat.le_trans h (run_ok e2)
      split
      ·trivial
      ·rename_i e3
       have h3:=Nat.le_trans h2 (run_ok e3)
       split
       ·exact h3
       ·split
        ·trivial
        ·rename_i e4;exact Nat.le_trans h3 (Nat.le_trans (run_ok e4) (Nat.le_refl _))
     ·rename_i e2
      exact Nat.le_trans h (Nat.le_trans (run_ok e2) (Nat.le_refl _))
     ·rename_i e2
      have h2:=Nat.le_trans h (run_ok e2)
      split
      ·trivial
      ·rename_i e3
       have h4:=run_ok e3
       have h3:=Nat.le_trans h2 h4
       split
       ·exact h3
       ·split
        ·trivial
        ·rename_i e4;exact Nat.le_trans h3 (Nat.le_trans (run_ok e4) (Nat.le_refl _))
theorem mok_le {n k:Nat} {s:Move} (h:n≤k) (hs:mok k s):mok n s:=by
 cases s with
 | goroutine m _=>exact Nat.le_trans h hs
 | machine s _=>exact sok_le h hs
theorem ask_mono' (p:Program) (m:Machine):mok m.world.drawn (ask p m):=by
 unfold ask
 split
 ·split
  ·trivial
  ·rename_i w1 e
   have h:=run_ok e
   have h2:=look_mono p m.gs m.rest w1
   split
   ·rename_i e2
    rw [e2] at h2
    exact mok_le (Nat.le_trans h h2) (askOn_mono p _)
   ·exact sok_le h h2
  ·rename_i e
   exact mok_le (run_ok e) (askOn_mono p _)
 ·exact askOn_mono p m
theorem move_mono (p:Program) (m:Machine):mok m.world.drawn (move p m):=by
 unfold move
 split
 ·split
  ·exact Nat.le_refl _
  ·trivial
 ·split
  ·split
   ·exact Nat.le_refl _
   ·exact ask_mono' p {m with rest:={m.rest with slice:=none}}
  ·exact ask_mono' p m
theorem runT_step_mono (p:Program) (m:Machine) (i:Nat) (li:Bool):sok m.world.drawn (Go.runT p m i li).1:=by
 unfold Go.runT
 dsimp only
 generalize hg:m.gs.swapAt! i _=G
 obtain ⟨g,gs⟩:=G
 dsimp only
 have h:=stepG_mono p (i==0) li g m.world
 generalize stepG p (i==0) g m.world li=s at h
 cases s with
 | go g w es=>exact h
 | comm g c b sh w es=>exact sok_le h (comm_mono p _ _ _ _ _ _ _ w)
 | spawn g ch w es=>exact h
 | count g w es=>
  dsimp only
  split
  ·trivial
  ·exact h
 | timer g op w es=>
  dsimp only
  split
  ·rename_i e
   have h2:=timer_mono _ _ _ _ e
   exact Nat.le_trans h (Nat.le_of_eq h2)
  ·split
   ·rename_i e;unfold endThrow dieOf at e;injection e with e1 e2;rw [← e2];exact h
   ·trivial
  ·trivial
  ·trivial
 | alone g on w es=>exact h
 | newcoro g c d w es=>exact h
 | coroswitch g c ex w es=>
  dsimp only
  split
  ·exact h
  ·split
   ·rename_i e;unfold endThrow dieOf at e;injection e with e1 e2;rw [← e2];exact h
   ·trivial
  ·trivial
 | collect g w es=>exact sok_le h (look_mono p _ _ w)
 | watch g w es=>exact h
 | ended o w es=>trivial
theorem step_mono (p:Program) (m:Machine):sok m.world.drawn (step p m):=by
 unfold step stepT
 have h:=move_mono p m
 split
 ·rename_i e;rw [e] at h;exact sok_le h (runT_step_mono p _ _ _)
 ·rename_i e;rw [e] at h;exact h
theorem runN_mono (p:Program):∀ (n:Nat) (m m':Machine),runN p n m=.next m'→m.world.drawn≤m'.world.drawn
 | 0,m,m',h=>by injection h with h;rw [h];exact Nat.le_refl _
 | n+1,m,m',h=>by
  unfold runN at h
  have hs:=step_mono p m
  split at h
  ·rename_i e;rw [e] at hs;exact Nat.le_trans hs (runN_mono p n _ _ h)
  ·rename_i hne;exact absurd h (by intro h2;exact hne _ h2)
theorem Calls.drawn {P:Program} {f:FuncId} {args:Array Value} {w:World} {v:Value} {R:World→Prop} (h:Calls P f args w fun e w'=>e=.returned v∧R w'):
  Calls P f args w fun e w'=>e=.returned v∧R w'∧w.drawn≤w'.drawn:=by
 intro cs
 obtain ⟨e,w',fr,⟨rfl,hR⟩,hc,hf,hl⟩:=h cs
 refine ⟨_,w',fr,⟨rfl,hR, ?_⟩,hc,hf,hl⟩
 obtain ⟨n,hn⟩:=hc
 exact runN_mono P n _ _ hn
theorem grown_of_below {w w':World} (h:Below w.heap.size w w') (hd:w.drawn≤w'.drawn):∃ q os,w'=grow (w.drewN q) os:=by
 obtain ⟨⟨d,os⟩,rfl⟩:=regrown_of_below h
 refine ⟨d - w.drawn,os, ?_⟩
 have hd':w.drawn≤d:=hd
 have e:w.drewN (d - w.drawn)=redrawn w d:=by
  unfold World.drewN redrawn
  congr 1
  omega
 rw [e]
end Go.Proofs.YthodedagbbifbaaGreat
namespace Go.Proofs.YthodedagbbifbaaGreat
open Go.RowKit LX Go.Shelf Go.Sort
set_option linter.unusedVariables false
theorem ptN_get {ps:List Pt} {i:Nat} (h:i<ps.length):ptN ps i=ps[i]:=by unfold ptN;rw [List.getD_eq_getElem?_getD,List.getElem?_eq_getElem h];rfl
theorem PtLst.one {w:World} {V:Value} {ps:List Pt} (h:PtLst w V ps) (h0:0<ps.length):∃ b off c u0,V=.slice (some ⟨b,off,none⟩) ps.length c∧b<w.heap.size∧w.cell? ⟨b,off,none⟩=some u0∧PtV w u0 (ptN ps 0):=by
 obtain ⟨p,c,rfl, -, -,hx⟩:=h
 obtain ⟨b,off,u,rfl,hb,hc,hp⟩:=hx 0 h0
 exact ⟨b,off,c,u,rfl,hb,hc,by rw [ptN_get h0];exact hp⟩
theorem PtLst.two {w:World} {V:Value} {ps:List Pt} (h:PtLst w V ps) (h1:1<ps.length):∃ b off c u0 u1,V=.slice (some ⟨b,off,none⟩) ps.length c∧b<w.heap.size∧w.cell? ⟨b,off,none⟩=some u0∧w.cell? ⟨b,off+1,none⟩=some u1∧PtV w u0 (ptN ps 0)∧PtV w u1 (ptN ps 1):=by
 obtain ⟨p,c,rfl, -, -,hx⟩:=h
 obtain ⟨b,off,u,rfl,hb,hc,hp⟩:=hx 0 (by omega)
 obtain ⟨b',off',u',e,hb',hc',hp'⟩:=hx 1 h1
 injection e with e
 injection e with e1 e2
 subst e1 e2
 exact ⟨b,off,c,u,u',rfl,hb,hc,hc',by rw [ptN_get (by omega)];exact hp,by rw [ptN_get h1];exact hp'⟩
theorem sBelow_grow (W0:World) (n:Nat) (os:Array Obj):Below W0.heap.size W0 (grow (W0.drewN n) os):=Lib.below_grow W0.heap.size W0 (Nat.le_refl _) n os
theorem scell_grow (W0:World) (n:Nat) (os:Array Obj) {b o:Nat} (h:b<W0.heap.size):(grow (W0.drewN n) os).cell? ⟨b,o,none⟩=W0.cell? ⟨b,o,none⟩:=(sBelow_grow W0 n os).cell (p:=⟨b,o,none⟩) h
theorem sfm_forms {w:World} {f:Fm} {q:FQ} (h:QAt w (f,q)):(∃ p c,q.v=.slice p f.vars.length c)∧(∃ p c,q.t=.slice p f.terms.length c)∧(∃ p c,q.s=.slice p f.subs.length c)∧∃ p c,q.r=.slice p f.rgx.length c:=by
 obtain ⟨h1,h2,h3,h4⟩:=h
 obtain ⟨p1,c1,e1, -⟩:=h1.form
 obtain ⟨p2,c2,e2, -⟩:=h2.form
 obtain ⟨p3,c3,e3, -⟩:=h3.form
 obtain ⟨p4,c4,e4, -⟩:=h4.form
 exact ⟨⟨p1,c1,e1⟩,⟨p2,c2,e2⟩,⟨p3,c3,e3⟩,⟨p4,c4,e4⟩⟩
theorem isListed_any (f:Fm) (q:FQ) (P:Pt) (u:Value) (w:World) (hq:QAt w (f,q)) (hu:PtV w u P):
  Calls Tryz.prog 117 #[.agg #[.int .i64 f.k,.string f.nm,.int .i64 f.op,q.v,q.t,.int .i64 f.lo,.int .i64 f.hi,.bool f.opn,q.s,q.r],u] w fun e w'=>e=.returned (.bool (listP f.vars P))∧Below w.heap.size w w':=by
 have CA:Hid (∀ (a:Bool) (r:Int) (pv pb:Option Addr) (nv nb cv cb:Nat) (W:World),Calls Tryz.prog 197 #[.agg #[.slice pv nv cv,.bool a,.int .i64 r,.slice pb nb cb]] W fun e w'=>e=.returned (.agg #[.slice pv nv cv,.bool a,.int .i64 r,.slice pb nb cb])∧Below W.heap.size W w'):=fun a r pv pb nv nb cv cb W=>about_fx (.bool true) (.bool true) a r pv pb nv nb cv cb W
 have cA:Hid (∀ (W:World) (X Y:Value),NmsAt W X f.vars→NmsAt W Y P.about.vars→Calls Tryz.prog 47 #[X,Y] W fun e w'=>e=.returned (.bool (amg f.vars P.about.vars))∧Below W.heap.size W w'):=fun W X Y h1 h2=>amg_any _ _ X Y W h1 h2
 obtain ⟨⟨pv,cv,ev⟩,⟨pt,ct,et⟩,⟨ps,cs,es⟩,⟨pr,cr,er⟩⟩:=sfm_forms hq
 obtain ⟨T,vv,pv1,pb1,cv1,cb1,rfl,hv1, -,hm1⟩:=hu.abt
 have hqv:=hq.1
 simp only at hqv
 rw [ev] at hqv
 have cA1:Hid (∀ W:World,Below w.heap.size w W→Calls Tryz.prog 47 #[.slice pv f.vars.length cv,.slice pv1 P.about.vars.length cv1] W fun e w'=>e=.returned (.bool (amg f.vars P.about.vars))∧Below W.heap.size W w'):=fun W hW=>cA.out W _ _ (hqv.below hW) (hv1.below hW)
 rw [ev,et,es,er]
 have hR:Hid (listP f.vars P=(decide (f.vars.length=P.about.vars.length) && amg f.vars P.about.vars)):=(show _=_ from rfl)
 rw [hR.out]
 clear hu hv1 cA ev et es er hR hqv hq
 generalize amg f.vars P.about.vars=G at*
 generalize f.vars.length=nv at*
 generalize f.terms.length=nt at*
 generalize f.subs.length=ns at*
 generalize f.rgx.length=nr at*
 generalize f.k=k at*
 generalize f.nm=nm at*
 generalize f.op=op at*
 generalize f.lo=lo at*
 generalize f.hi=hi at*
 generalize f.opn=o at*
 generalize P.about.acc=A1 at*
 generalize P.about.reach=r1 at*
 generalize P.about.vars.length=n1 at*
 generalize P.about.bare.length=b1 at*
 have hfd:=fld_vars
 go_enter Tryz.func117,Tryz.ntmps117
 go_upto_region 1 with fail
 refine wp_world ?_
 intro W0 hW0
 have K0:Below w.heap.size w W0:=by rw [hW0];go_grown
 have hlt:w.heap.size<W0.heap.size:=by rw [hW0];simp
 have q3:W0.cell? ⟨w.heap.size,3,none⟩=some (.slice pv nv cv):=by rw [hW0];simp [go_sem]
 clear hW0
 have c3:∀ nq osq,(grow (W0.drewN nq) osq).cell? ⟨w.heap.size,3,none⟩=some (.slice pv nv cv):=fun nq osq=>by rw [scell_grow W0 nq osq hlt];exact q3
 have mixed:Tryz.prog.follows .mixedOrders=true:=by kernel_rfl
 have hcc:∀ nq osq,Calls Tryz.prog 197 #[.agg #[.slice pv1 n1 cv1,.bool A1,.int .i64 r1,.slice pb1 b1 cb1]] (grow (W0.drewN nq) osq) fun e w'=>e=.returned (.agg #[.slice pv1 n1 cv1,.bool A1,.int .i64 r1,.slice pb1 b1 cb1])∧∃ q os',w'=grow ((grow (W0.drewN nq) osq).drewN q) os':=fun nq osq=>(Calls.drawn (CA.out _ _ _ _ _ _ _ _ (grow (W0.drewN nq) osq))).mono fun e w' ⟨he,hb,hd⟩=>⟨he,grown_of_below hb hd⟩
 have hca:∀ nq osq,Calls Tryz.prog 47 #[.slice pv nv cv,.slice pv1 n1 cv1] (grow (W0.drewN nq) osq) fun e w'=>e=.returned (.bool G)∧∃ q os',w'=grow ((grow (W0.drewN nq) osq).drewN q) os':=fun nq osq=>(Calls.drawn (cA1.out (grow (W0.drewN nq) osq) (K0.trans ((sBelow_grow W0 nq osq).mono K0.size)))).mono fun e w' ⟨he,hb,hd⟩=>⟨he,grown_of_below hb hd⟩
 clear CA cA1 q3
 by_cases hn:nv=n1
 ·subst hn
  go_quiet_grown (first | (go_at_call 197;refine Calls.grown_of (hcc _ _)) | (go_at_call 47;refine Calls.grown_of (hca _ _)))
  have hw1:Below W0.heap.size W0 (grow (W0.drewN nq) osq):=sBelow_grow W0 nq osq
  clear hcc hca c3
  generalize grow (W0.drewN nq) osq=v1 at hw1 ⊢
  go_wp2
  go_ret
  exact ⟨by simp,K0.trans (hw1.mono K0.size)⟩
 ·have hn2:¬ ((nv:Int)=(n1:Int)):=by omega
  go_quiet_grown (first | (go_at_call 197;refine Calls.grown_of (hcc _ _)) | (go_at_call 47;refine Calls.grown_of (hca _ _)))
  have hw1:Below W0.heap.size W0 (grow (W0.drewN nq) osq):=sBelow_grow W0 nq osq
  clear hcc hca c3
  generalize grow (W0.drewN nq) osq=v1 at hw1 ⊢
  go_wp2
  go_ret
  exact ⟨by simp [hn],K0.trans (hw1.mono K0.size)⟩
theorem slt_heap {w:World} {b:Nat} {o:Obj} (h:w.heap[b]? =some o):b<w.heap.size:=(Array.getElem?_eq_some_iff.1 h).1
def NmsT (w:World) (v:Value) (vs:List ByteArray):Prop:=NmsAt w v vs∧∀ b off n c,v=.slice (some ⟨b,off,none⟩) n c→vs≠[]→∃ cs z,w.heap[b]? =some (Obj.cells cs 9 z)
theorem OwnN.nmsT {B:Nat} {v:Value} {L:List ByteArray} {w:World} (h:OwnN B v L w) (hl:L.length≤9223372036854775807):NmsT w v L:=by
 refine ⟨h.nms hl,fun b off n c e hne=> ?_⟩
 obtain ⟨-,⟨e2, -⟩ | ⟨g,cap,cur,e2, -,h2, -⟩⟩:=h
 ·rw [e] at e2;injection e2 with e2;cases e2
 ·rw [e] at e2
  injection e2 with e2
  injection e2 with e2
  injection e2 with e2
  subst e2
  exact ⟨_,_,h2⟩
theorem NmsT.nil {w:World}:NmsT w (.slice none 0 0) []:=⟨⟨by simp,none,0,rfl,by simp,Or.inl rfl⟩,fun b off n c e hne=>absurd rfl hne⟩
theorem nmsT_heap {w w':World} {v:Value} {vs:List ByteArray} (h:NmsT w v vs) (hs:w.heap.size≤w'.heap.size) (hk:∀ (b:Nat) (cs:Array Value) (z:_),w.heap[b]? =some (Obj.cells cs 9 z)→w'.heap[b]? =w.heap[b]?):NmsT w' v vs:=by
 obtain ⟨⟨hl,p,c,e,hc,hx⟩,ht⟩:=h
 by_cases hv:vs=[]
 ·exact ⟨⟨hl,p,c,e,hc,Or.inl hv⟩,fun b off n c e hne=>absurd hv hne⟩
 ·rcases hx with hx | ⟨b,off,h1,h2,h3⟩
  ·exact absurd hx hv
  ·subst h1
   obtain ⟨cs,z,hh⟩:=ht b off _ _ e hv
   have hb:=hk b cs z hh
   refine ⟨⟨hl,_,c,e,hc,Or.inr ⟨b,off,rfl,Nat.lt_of_lt_of_le h2 hs,fun i hi=> ?_⟩⟩,fun b' off' n' c' e' hne=> ?_⟩
   ·rw [← h3 i hi]
    unfold World.cell?
    rw [hb]
   ·rw [e] at e'
    injection e' with e'
    injection e' with e'
    injection e' with e'
    subst e'
    exact ⟨cs,z,hb.trans hh⟩
theorem NmsT.below {w w':World} {v:Value} {vs:List ByteArray} (h:NmsT w v vs) (hb:Below w.heap.size w w'):NmsT w' v vs:=nmsT_heap h hb.size (fun b cs z hh=>hb.block b (slt_heap hh))
theorem NmsT.grown {w w':World} {v:Value} {vs:List ByteArray} {row:Option Nat} (h:NmsT w v vs) (hg:w.grownBy w' row) (hr:∀ g,row=some g→∃ cs z,w.heap[g]? =some (Obj.cells cs 55 z)):NmsT w' v vs:=
 nmsT_heap h hg.size (fun b cs z hh=>hg.block b (slt_heap hh) (fun e=>by
  obtain ⟨cs2,z2,h2⟩:=hr b e.symm
  rw [hh] at h2
  injection h2 with h2
  injection h2 with _ h2
  exact absurd h2 (by decide)))
inductive PtT (B:Nat) (w:World):Value→Pt→Prop
 | fx {x:Fx} {uv ub:Value} (hv:NmsT w uv x.vars) (hb:NmsT w ub x.bare):PtT B w (.iface 48 (.agg #[uv,.bool x.acc,.int .i64 x.reach,ub])) (.fx x)
 | neg {x:Fx} {o:Pt} {uv ub ov:Value} (hv:NmsT w uv x.vars) (hb:NmsT w ub x.bare) (ho:PtT B w ov o):PtT B w (.iface 83 (.agg #[uv,.bool x.acc,.int .i64 x.reach,ub,ov])) (.neg x o)
 | cmp {x:Fx} {k:Int} {a b:Tm} {uv ub ua uc:Value} {w0:World} (hv:NmsT w uv x.vars) (hb:NmsT w ub x.bare) (hw:Below w0.heap.size w0 w) (hB:w0.heap.size≤B) (ha:TmsAt w0 ua a.subs) (hc:TmsAt w0 uc b.subs) (fa:a.v.Fits) (fb:b.v.Fits):
   PtT B w (.iface 85 (.agg #[uv,.bool x.acc,.int .i64 x.reach,ub,.int .i64 k,.int .i64 a.k,.string a.nm,.int .i64 a.v.k,.int .i64 a.v.n,.int .i64 a.v.d,.string a.v.s,ua,.int .i64 b.k,.string b.nm,.int .i64 b.v.k,.int .i64 b.v.n,.int .i64 b.v.d,.string b.v.s,uc])) (.cmp x k a b)
theorem PtT.pt {B:Nat} {w:World} {v:Value} {p:Pt} (h:PtT B w v p):PtV w v p:=by
 induction h with
 | fx hv hb=>exact .fx hv.1 hb.1
 | neg hv hb _ ih=>exact .neg hv.1 hb.1 ih
 | cmp hv hb hw hB ha hc fa fb=>exact .cmp hv.1 hb.1 (ha.bel hw) (hc.bel hw) fa fb
theorem PtT.bel {B:Nat} {w w':World} {v:Value} {p:Pt} (h:PtT B w v p) (hb:Below w.heap.size w w'):PtT B w' v p:=by
 induction h with
 | fx h1 h2=>exact .fx (h1.below hb) (h2.below hb)
 | neg h1 h2 _ ih=>exact .neg (h1.below hb) (h2.below hb) ih
 | cmp h1 h2 hw hB ha hc fa fb=>exact .cmp (h1.below hb) (h2.below hb) (hw.trans (hb.mono hw.size)) hB ha hc fa fb
theorem PtT.grown {B:Nat} {w w':World} {v:Value} {p:Pt} {row:Option Nat} (h:PtT B w v p) (hg:w.grownBy w' row) (hr:∀ g,row=some g→B≤g∧∃ cs z,w.heap[g]? =some (Obj.cells cs 55 z)):PtT B w' v p:=by
 induction h with
 | fx h1 h2=>exact .fx (h1.grown hg fun g e=>(hr g e).2) (h2.grown hg fun g e=>(hr g e).2)
 | neg h1 h2 _ ih=>exact .neg (h1.grown hg fun g e=>(hr g e).2) (h2.grown hg fun g e=>(hr g e).2) ih
 | cmp h1 h2 hw hB ha hc fa fb=>exact .cmp (h1.grown hg fun g e=>(hr g e).2) (h2.grown hg fun g e=>(hr g e).2) (hw.grown hg hw.size (fun g e=>Nat.le_trans hB (hr g e).1)) hB ha hc fa fb
def OwnP (B:Nat) (v:Value) (us:List Value) (w:World):Prop:=w.ownsRow B 55 1 v us.length us
theorem inPart:(Tryz.prog.info? 55).map (fun i=>(i.zero,i.size,i.bytes))=some (some .nilIface,1,16):=by kernel_rfl
theorem OwnP.nil (B:Nat) (w:World):OwnP B (.slice none 0 0) [] w:=⟨rfl,.inl ⟨rfl,rfl⟩⟩
theorem OwnP.bel {B:Nat} {v:Value} {us:List Value} {w w':World} (h:OwnP B v us w) (hb:Below w.heap.size w w'):OwnP B v us w':=own_belA h hb
theorem OwnP.row {B:Nat} {v:Value} {us:List Value} {w:World} (h:OwnP B v us w):∀ g,v.ownBlock=some g→B≤g∧g<w.heap.size∧∃ cs z,w.heap[g]? =some (Obj.cells cs 55 z):=by
 intro g hg
 obtain ⟨-,⟨e2, -⟩ | ⟨g',cap,cur,e2,h1,h2, -⟩⟩:=h
 ·rw [e2] at hg;simp [Value.ownBlock] at hg
 ·rw [e2] at hg
  simp only [Value.ownBlock,Option.some.injEq] at hg
  subst hg
  exact ⟨h1,slt_heap h2,_,_,h2⟩
theorem OwnP.lst {B C:Nat} {v:Value} {us:List Value} {w:World} {ps:List Pt} (h:OwnP B v us w) (hl:us.length=ps.length) (h63:us.length≤9223372036854775807) (hp:∀ i (hi:i<us.length) (hi':i<ps.length),PtT C w us[i] ps[i]):PtLst w v ps:=by
 have h':w.ownsRow B 55 1 v us.length us:=h
 obtain ⟨-,⟨e2,hn⟩ | ⟨g,cap,cur,e2,h1,h2,h3,h4,h5,h6⟩⟩:=h
 ·exact ⟨none,0,by rw [e2,← hl,hn],by omega,by omega,fun i hi=>by omega⟩
 ·rw [e2] at h'
  have hc:ps.length≤cap:=by rw [← hl];exact h3
  have h64:ps.length≤9223372036854775807:=by rw [← hl];exact h63
  have ev:v=.slice (some ⟨g,0,none⟩) ps.length cap:=by rw [e2,hl]
  refine ⟨_,cap,ev,hc,h64,fun i hi=> ?_⟩
  have hiu:i<us.length:=by rw [hl];exact hi
  refine ⟨g,0,us[i],rfl,slt_heap h2, ?_,(hp i hiu hi).pt⟩
  rw [Nat.zero_add,h'.cellAt i (by omega),List.getElem?_eq_getElem hiu]
def RowP (C B:Nat) (v:Value) (ps:List Pt) (w:World):Prop:=∃ us,OwnP B v us w∧us.length=ps.length∧∀ i (hi:i<us.length) (hi':i<ps.length),PtT C w us[i] ps[i]
theorem RowP.nil (C B:Nat) (w:World):RowP C B (.slice none 0 0) [] w:=⟨[],OwnP.nil B w,rfl,fun i hi=>by simp at hi⟩
theorem RowP.lst {C B:Nat} {v:Value} {ps:List Pt} {w:World} (h:RowP C B v ps w) (h63:ps.length≤9223372036854775807):PtLst w v ps:=by
 obtain ⟨us,h1,h2,h3⟩:=h
 exact h1.lst h2 (by omega) h3
theorem RowP.step {C B:Nat} {w w3:World} {O:Obj} {v v' u:Value} {us:List Value} {ps:List Pt} {p:Pt} (hO:OwnP B v us w) (hC:C≤B) (hl:us.length=ps.length) (hP:∀ i (hi:i<us.length) (hi':i<ps.length),PtT C w us[i] ps[i]) (hu:PtT C w u p) (h2:w3.ownsRow B 55 1 v' (us.length+1) (us++[u])) (h3:(w.alloc O).grownBy w3 v.ownBlock):RowP C B v' (ps++[p]) w3:=by
 have ha:Below w.heap.size w (w.alloc O):=(Below.refl _ _).alloc (Nat.le_refl _) _
 have row:∀ g,v.ownBlock=some g→C≤g∧∃ cs z,(w.alloc O).heap[g]? =some (Obj.cells cs 55 z):=fun g hg=>by
  obtain ⟨h1, -,h2⟩:=(hO.bel ha).row g hg
  exact ⟨Nat.le_trans hC h1,h2⟩
 refine ⟨us++[u], ?_,by simp [hl],fun i hi hi'=> ?_⟩
 ·show w3.ownsRow _ _ _ _ _ _
  rw [List.length_append]
  exact h2
 ·by_cases hlt:i<us.length
  ·rw [List.getElem_append_left hlt,List.getElem_append_left (by omega)]
   exact ((hP i hlt (by omega)).bel ha).grown h3 row
  ·have e1:i=us.length:=by simp at hi;omega
   subst e1
   rw [List.getElem_append_right (Nat.le_refl _),List.getElem_append_right (by omega)]
   simp only [Nat.sub_self,List.getElem_cons_zero,hl]
   exact (hu.bel ha).grown h3 row
end Go.Proofs.YthodedagbbifbaaGreat
namespace Go.Proofs.YthodedagbbifbaaGreat
open Go.RowKit LX Go.Shelf
set_option linter.unusedVariables false
inductive EnvAt (w:World):Option Addr→Env→Prop
 | nil:EnvAt w none []
 | cons {b:Nat} {n:ByteArray} {r:Int} {p:Option Addr} {e:Env} (hb:b<w.heap.size) (h0:w.cell? ⟨b,0,none⟩=some (.string n)) (h1:w.cell? ⟨b,1,none⟩=some (.int .i64 r)) (h2:w.cell? ⟨b,2,none⟩=some (.pointer p)) (he:EnvAt w p e):EnvAt w (some ⟨b,0,none⟩) ((n,r)::e)
theorem EnvAt.bel {w w':World} {p:Option Addr} {e:Env} (h:EnvAt w p e) (hb:Below w.heap.size w w'):EnvAt w' p e:=by
 induction h with
 | nil=>exact .nil
 | cons h h0 h1 h2 _ ih=>exact .cons (Nat.lt_of_lt_of_le h hb.size) ((hb.cell (p:=⟨_,_,none⟩) h).trans h0) ((hb.cell (p:=⟨_,_,none⟩) h).trans h1) ((hb.cell (p:=⟨_,_,none⟩) h).trans h2) ih
theorem reachOf_any (e:Env) (p:Option Addr) (x:ByteArray) (w:World) (h:EnvAt w p e):
  Calls Tryz.prog 87 #[.pointer p,.string x] w fun r w'=>r=.returned (.int .i64 (rchOf e x))∧Below w.heap.size w w':=by
 have HE:Hid (EnvAt w p e):=h
 obtain ⟨R,eR⟩:∃ R:Int,Hid (rchOf e x=R):=⟨_,rfl⟩
 rw [eR.out]
 clear h
 go_enter Tryz.func87,Tryz.ntmps87
 go_wp2
 go_loopg [0] e.length (fun k v0 wr=>w=wr∧∃ (p':Option Addr) (e':Env),v0=.pointer p'∧Hid (EnvAt w p' e')∧Hid (rchOf e' x=R)∧Hid (e'.length=k))
 case atStart=>exact ⟨rfl,p,e,rfl,HE,eR,rfl⟩
 case round=>
  obtain ⟨rfl,p',e',rfl,hE,hr,hk⟩:=hrel
  cases e' with
  | nil=>
   have hp:p'=none:=by have h:=hE.out;cases h;rfl
   subst hp
   have hr2:Hid (R=0):=hr.out.symm
   go_wp2
   go_ret
   exact ⟨by rw [hr2.out];rfl,Below.refl _ _⟩
  | cons y l=>
   obtain ⟨n,r⟩:=y
   obtain ⟨b,p2,rfl,hb,h0,h1,h2,hl⟩:∃ b p2,p'=some ⟨b,0,none⟩∧b<w.heap.size∧w.cell? ⟨b,0,none⟩=some (.string n)∧w.cell? ⟨b,1,none⟩=some (.int .i64 r)∧w.cell? ⟨b,2,none⟩=some (.pointer p2)∧Hid (EnvAt w p2 l):=by
    have h:=hE.out
    cases h with
    | cons hb h0 h1 h2 he=>exact ⟨_,_,rfl,hb,h0,h1,h2,he⟩
   have hr2:Hid ((if n=x then r else rchOf l x)=R):=hr.out
   clear hE hr HE
   by_cases hx:n=x
   ·subst hx
    have hxx:(n.toList==n.toList)=true:=by simp
    have hr3:Hid (R=r):=by have h:=hr2.out;rw [if_pos rfl] at h;exact h.symm
    clear hr2
    go_wp2
    go_ret
    exact ⟨by rw [hr3.out];rfl,Below.refl _ _⟩
   ·have hxx:(n.toList==x.toList)=false:=by
     rw [beq_eq_false_iff_ne]
     intro h
     apply hx
     rw [ByteArray.toList_eq,ByteArray.toList_eq] at h
     exact ByteArray.ext (Array.toList_inj.1 h)
    have hr3:Hid (rchOf l x=R):=by have h:=hr2.out;rw [if_neg hx] at h;exact h
    have hk2:Hid (l.length<gk):=by have h:=hk.out;rw [← h];exact (Nat.lt_succ_self _)
    clear hr2 hx hk
    go_wp2
    go_roundg l.length
    case measure=>exact hk2.out
    case rel=>exact ⟨rfl,p2,l,rfl,hl,hr3,rfl⟩
theorem rckT_eq (t:Tm):rckT t=(decide (t.k=3∨t.k=4∨t.k=5) || rckTs t.subs):=by
 cases t
 rw [rckT]
 rfl
theorem rckTs_nil:rckTs []=false:=by rw [rckTs]
theorem rckTs_cons (t:Tm) (l:List Tm):rckTs (t::l)=(rckT t || rckTs l):=by rw [rckTs]
theorem idxT_any (ts:List Tm) (V:Value) (w:World) (hV:TmsAt w V ts) (HC:∀ i (hi:i<ts.length) (u:Value) (W:World),Below w.heap.size w W→TmsAt W u ts[i].subs→Calls Tryz.prog 30 #[.agg #[.int .i64 ts[i].k,.string ts[i].nm,.int .i64 ts[i].v.k,.int .i64 ts[i].v.n,.int .i64 ts[i].v.d,.string ts[i].v.s,u]] W fun e w'=>e=.returned (.bool (rckT ts[i]))∧Below W.heap.size W w'):
  Calls Tryz.prog 56 #[V,.func (.func 30) #[] #[]] w fun e w'=>∃ i:Int,e=.returned (.int .i64 i)∧decide (0≤i)=rckTs ts∧Below w.heap.size w w':=by
 have eg:∀ args w,(callFunc 30 args).run Tryz.prog w=.ok (.enter 30 args) w:=enters_of Tryz.func30 (by kernel_rfl) rfl
 obtain ⟨p,c,rfl,hl,hc,HX0⟩:=hV.form
 have HX:Hid (∀ i (hi:i<ts.length),∃ b off u,p=some ⟨b,off,none⟩∧b<w.heap.size∧TmC w b (off+i*7) ts[i] u∧TmsAt w u ts[i].subs∧ts[i].v.Fits):=HX0
 have CT:Hid (∀ i (hi:i<ts.length) (u:Value) (W:World),Below w.heap.size w W→TmsAt W u ts[i].subs→Calls Tryz.prog 30 #[.agg #[.int .i64 ts[i].k,.string ts[i].nm,.int .i64 ts[i].v.k,.int .i64 ts[i].v.n,.int .i64 ts[i].v.d,.string ts[i].v.s,u]] W fun e w'=>e=.returned (.bool (rckT ts[i]))∧Below W.heap.size W w'):=HC
 obtain ⟨n,en⟩:∃ n:Nat,Hid (ts.length=n):=⟨_,rfl⟩
 rw [en.out] at hl hc ⊢
 clear hV HX0 HC
 go_enter Tryz.func56,Tryz.ntmps56
 go_wp2
 go_loopw [8] (fun i wr=>∃ k:Nat,k≤n∧i=.int .i64 k∧Hid (rckTs ts=rckTs (ts.drop k))∧Below w.heap.size w wr) (fun i _=>n - (intOf i).toNat)
 case atStart=>exact ⟨0,Nat.zero_le _,rfl,(show rckTs ts=rckTs (ts.drop 0) by simp),Below.refl _ _⟩
 case round=>
  obtain ⟨k,hk,rfl,hr,hBw⟩:=hrel
  by_cases hlt:k<n
  ·have kx:k<ts.length:=by have:=en.out;omega
   have hlt':(k:Int)<n:=by omega
   obtain ⟨b,off,u,rfl,hb,TC,TS, -⟩:=HX.out k kx
   obtain ⟨a0,a1,a2,a3,a4,a5,a6⟩:=TC.below hBw hb
   have hr2:Hid (rckTs ts=(rckT ts[k] || rckTs (ts.drop (k+1)))):=by
    have h:=hr.out
    rw [List.drop_eq_getElem_cons kx,rckTs_cons] at h
    exact h
   have ct:=CT.out k kx u wr hBw (TS.bel hBw)
   obtain ⟨pu,cu,rfl, -⟩:=TS.form
   clear TC hr TS
   generalize rckT ts[k]=C at hr2 ct
   generalize ts[k].subs.length=nu at*
   generalize ts[k].k=tk at*
   generalize ts[k].nm=nm at*
   generalize ts[k].v.k=vk at*
   generalize ts[k].v.n=vn at*
   generalize ts[k].v.d=vd at*
   generalize ts[k].v.s=vs at*
   have CTk:Hid (Calls Tryz.prog 30 #[.agg #[.int .i64 tk,.string nm,.int .i64 vk,.int .i64 vn,.int .i64 vd,.string vs,.slice pu nu cu]] wr fun e w'=>e=.returned (.bool C)∧Below wr.heap.size wr w'):=ct
   clear ct
   go_wp2_with fail
   refine CTk.out.mono ?_
   rintro e w1 ⟨rfl,hw1⟩
   have hB2:Below w.heap.size w w1:=hBw.trans (hw1.mono hBw.size)
   clear a0 a1 a2 a3 a4 a5 a6 CTk hw1
   cases C with
   | true=>
    have hr3:Hid (rckTs ts=true):=by have:=hr2.out;rwa [Bool.true_or] at this
    go_wp2
    go_ret
    exact ⟨k,rfl,by rw [hr3.out];simp,hB2⟩
   | false=>
    have hr3:Hid (rckTs ts=rckTs (ts.drop (k+1))):=by have:=hr2.out;rwa [Bool.false_or] at this
    go_wp2
    exact ⟨⟨k+1,by omega,by go_num,hr3,hB2⟩,by simp [intOf];omega⟩
  ·have c2:¬ (k:Int)<n:=by omega
   have hr3:Hid (rckTs ts=false):=by
    have h:=hr.out
    rw [List.drop_eq_nil_of_le (by have:=en.out;omega),rckTs_nil] at h
    exact h
   go_wp2
   go_ret
   exact ⟨-1,rfl,by rw [hr3.out];decide,hBw⟩
theorem conT_any (ts:List Tm) (V:Value) (w:World) (hV:TmsAt w V ts) (HC:∀ i (hi:i<ts.length) (u:Value) (W:World),Below w.heap.size w W→TmsAt W u ts[i].subs→Calls Tryz.prog 30 #[.agg #[.int .i64 ts[i].k,.string ts[i].nm,.int .i64 ts[i].v.k,.int .i64 ts[i].v.n,.int .i64 ts[i].v.d,.string ts[i].v.s,u]] W fun e w'=>e=.returned (.bool (rckT ts[i]))∧Below W.heap.size W w'):
  Calls Tryz.prog 29 #[V,.func (.func 30) #[] #[]] w fun e w'=>e=.returned (.bool (rckTs ts))∧Below w.heap.size w w':=by
 have ct:Hid (Calls Tryz.prog 56 #[V,.func (.func 30) #[] #[]] w fun e w'=>∃ i:Int,e=.returned (.int .i64 i)∧decide (0≤i)=rckTs ts∧Below w.heap.size w w'):=idxT_any ts V w hV HC
 obtain ⟨p,c,rfl, -⟩:=hV.form
 clear hV HC
 generalize ts.length=n at*
 generalize rckTs ts=R at*
 go_enter Tryz.func29,Tryz.ntmps29
 go_wp2_with fail
 refine ct.out.mono ?_
 rintro e w1 ⟨i,rfl,hi,hb⟩
 have HI:Hid (decide (0≤i)=R):=hi
 clear ct hi
 go_wp2
 go_ret
 exact ⟨ret_bool HI.out,hb⟩
theorem reckons_any:∀ (m:Nat) (t:Tm) (u:Value) (w:World),SizeOf.sizeOf t≤m→TmsAt w u t.subs→Calls Tryz.prog 30 #[.agg #[.int .i64 t.k,.string t.nm,.int .i64 t.v.k,.int .i64 t.v.n,.int .i64 t.v.d,.string t.v.s,u]] w fun e w'=>e=.returned (.bool (rckT t))∧Below w.heap.size w w':=by
 intro m
 induction m with
 | zero=>intro t u w hm;cases t;simp at hm
 | succ m ih=>
  intro t u w hm hu
  have cT:Hid (∀ W:World,Below w.heap.size w W→Calls Tryz.prog 29 #[u,.func (.func 30) #[] #[]] W fun e w'=>e=.returned (.bool (rckTs t.subs))∧Below W.heap.size W w'):=fun W hW=>
   conT_any t.subs u W (hu.bel hW) (fun i hi u' W' hW' hu'=>ih t.subs[i] u' W' (by have:=mem_lt i hi;have:=Tm.subs_lt t;omega) hu')
  have hR:Hid (rckT t=(decide (t.k=3∨t.k=4∨t.k=5) || rckTs t.subs)):=rckT_eq t
  rw [hR.out]
  obtain ⟨p,c,rfl, -⟩:=hu.form
  clear hu ih hR hm
  generalize rckTs t.subs=R at*
  generalize t.subs.length=nu at*
  generalize t.k=tk at*
  generalize t.nm=nm at*
  generalize t.v.k=vk at*
  generalize t.v.n=vn at*
  generalize t.v.d=vd at*
  generalize t.v.s=vs at*
  by_cases h3:tk=3
  ·subst h3
   go_enter Tryz.func30,Tryz.ntmps30
   go_wp2
   go_ret
   exact ⟨by simp,by go_grown⟩
  by_cases h4:tk=4
  ·subst h4
   go_enter Tryz.func30,Tryz.ntmps30
   go_wp2
   go_ret
   exact ⟨by simp,by go_grown⟩
  by_cases h5:tk=5
  ·subst h5
   go_enter Tryz.func30,Tryz.ntmps30
   go_wp2
   go_ret
   exact ⟨by simp,by go_grown⟩
  go_enter Tryz.func30,Tryz.ntmps30
  go_wp2_with fail
  refine (cT.out _ (by go_grown)).mono ?_
  rintro e w1 ⟨rfl,hb⟩
  have hB:Below w.heap.size w w1:=Below.trans (by go_grown) (hb.mono (by simp))
  clear cT hb
  go_wp2
  go_ret
  exact ⟨by simp [h3,h4,h5],hB⟩
theorem isFixed_any (t:Tm) (u:Value) (w:World) (hu:TmsAt w u t.subs) (hf:t.v.Fits) (hl:(tvs t).length≤1000000000) (hs:∀ s∈uniN [tvs t],s.size≤281474976710656):
  Calls Tryz.prog 116 #[.agg #[.int .i64 t.k,.string t.nm,.int .i64 t.v.k,.int .i64 t.v.n,.int .i64 t.v.d,.string t.v.s,u]] w fun e w'=>e=.returned (.bool (fixT t))∧Below w.heap.size w w':=by
 have cT:Hid (∀ W:World,Below w.heap.size w W→Calls Tryz.prog 80 #[.agg #[.int .i64 t.k,.string t.nm,.int .i64 t.v.k,.int .i64 t.v.n,.int .i64 t.v.d,.string t.v.s,u]] W fun e w'=>∃ v,e=.returned v∧OwnN W.heap.size v (uniN [tvs t]) w'∧Below W.heap.size W w'):=fun W hW=>tvars_any t u W (hu.bel hW) hf hl hs
 have hR:Hid (fixT t=(uniN [tvs t]).isEmpty):=(show _=_ from rfl)
 rw [hR.out]
 obtain ⟨p,c,rfl, -⟩:=hu.form
 clear hu hR hf hl hs
 generalize uniN [tvs t]=L at*
 generalize t.subs.length=nu at*
 generalize t.k=tk at*
 generalize t.nm=nm at*
 generalize t.v.k=vk at*
 generalize t.v.n=vn at*
 generalize t.v.d=vd at*
 generalize t.v.s=vs at*
 go_enter Tryz.func116,Tryz.ntmps116
 go_wp2_with fail
 refine (cT.out _ (by go_grown)).mono ?_
 rintro e w1 ⟨v,rfl,hO,hb⟩
 have hB:Below w.heap.size w w1:=Below.trans (by go_grown) (hb.mono (by simp))
 obtain ⟨p1,c1,rfl, -⟩:=hO.cap
 clear cT hb hO
 have hE:Hid (L.isEmpty=decide ((L.length:Int)=0)):=by
  cases L with
  | nil=>exact (show _=_ from rfl)
  | cons x l=>show _=_;simp;omega
 go_wp2
 go_ret
 exact ⟨by rw [hE.out];first | rfl | simp | (congr 2;simp),hB⟩
theorem isSet_any (vars:List ByteArray) (x t:Tm) (V ux u:Value) (w:World) (hV:NmsAt w V vars) (hx:TmsAt w ux x.subs) (hu:TmsAt w u t.subs) (hf:t.v.Fits) (hl:(tvs t).length≤1000000000) (hs:∀ s∈uniN [tvs t],s.size≤281474976710656):
  Calls Tryz.prog 48 #[V,.agg #[.int .i64 x.k,.string x.nm,.int .i64 x.v.k,.int .i64 x.v.n,.int .i64 x.v.d,.string x.v.s,ux],.agg #[.int .i64 t.k,.string t.nm,.int .i64 t.v.k,.int .i64 t.v.n,.int .i64 t.v.d,.string t.v.s,u]] w fun e w'=>e=.returned (.bool (setT vars x t))∧Below w.heap.size w w':=by
 have cT:Hid (∀ W:World,Below w.heap.size w W→Calls Tryz.prog 80 #[.agg #[.int .i64 t.k,.string t.nm,.int .i64 t.v.k,.int .i64 t.v.n,.int .i64 t.v.d,.string t.v.s,u]] W fun e w'=>∃ v,e=.returned v∧OwnN W.heap.size v (tvN t) w'∧Below W.heap.size W w'):=fun W hW=>tvars_any t u W (hu.bel hW) hf hl hs
 have cC:Hid (∀ W:World,Below w.heap.size w W→Calls Tryz.prog 79 #[V,.string x.nm] W fun e w'=>e=.returned (.bool (Lib.containsS vars x.nm))∧w'=W):=fun W hW=>acont_any V vars x.nm W (hV.below hW)
 have cA:Hid (∀ (W:World) (v:Value),Below w.heap.size w W→NmsAt W v (tvN t)→Calls Tryz.prog 47 #[v,V] W fun e w'=>e=.returned (.bool (amg (tvN t) vars))∧Below W.heap.size W w'):=fun W v hW h=>amg_any _ _ v V W h (hV.below hW)
 have hln:(tvN t).length≤1000000000:=by have:=uniN_len [tvs t];unfold tvN;simp at this;omega
 have hR:Hid (setT vars x t=(decide (x.k=1) && (!Lib.containsS vars x.nm && amg (tvN t) vars))):=(show _=_ from rfl)
 rw [hR.out]
 obtain ⟨pV,cV,rfl, -⟩:=hV.form
 obtain ⟨p,c,rfl, -⟩:=hu.form
 obtain ⟨px,cx,rfl, -⟩:=hx.form
 clear hu hx hV hR hf hl hs
 generalize amg (tvN t) vars=A at*
 generalize Lib.containsS vars x.nm=B at*
 generalize tvN t=L at*
 generalize vars.length=nV at*
 generalize t.subs.length=nu at*
 generalize t.k=tk at*
 generalize t.nm=nm at*
 generalize t.v.k=vk at*
 generalize t.v.n=vn at*
 generalize t.v.d=vd at*
 generalize t.v.s=vs at*
 generalize x.subs.length=xnu at*
 generalize x.k=xk at*
 generalize x.nm=xnm at*
 generalize x.v.k=xvk at*
 generalize x.v.n=xvn at*
 generalize x.v.d=xvd at*
 generalize x.v.s=xvs at*
 by_cases h1:xk=1
 ·subst h1
  go_enter Tryz.func48,Tryz.ntmps48
  go_wp2_with fail
  refine (cC.out _ (by go_grown)).mono ?_
  rintro e w1 ⟨rfl,rfl⟩
  cases B with
  | true=>
   go_wp2
   go_ret
   exact ⟨by simp,by go_grown⟩
  | false=>
   go_wp2_with fail
   refine (cT.out _ (by go_grown)).mono ?_
   rintro e w1 ⟨v,rfl,hO,hb⟩
   have hB:Below w.heap.size w w1:=Below.trans (by go_grown) (hb.mono (by simp;omega))
   have hN:=hO.nms (by omega)
   have cA1:Hid (Calls Tryz.prog 47 #[v,.slice pV nV cV] w1 fun e w'=>e=.returned (.bool A)∧Below w1.heap.size w1 w'):=cA.out w1 v hB hN
   obtain ⟨p1,c1,rfl, -⟩:=hO.cap
   clear cT hb hO hN cA cC
   go_wp2_with fail
   refine cA1.out.mono ?_
   rintro e w2 ⟨rfl,hb2⟩
   have hB2:Below w.heap.size w w2:=hB.trans (hb2.mono hB.size)
   clear cA1 hb2
   go_wp2
   go_ret
   exact ⟨by simp,hB2⟩
 ·clear cT cC cA
  go_enter Tryz.func48,Tryz.ntmps48
  go_wp2
  go_ret
  exact ⟨by simp [h1],by go_grown⟩
def TmB (t:Tm):Prop:=(tvs t).length≤1000000000∧∀ s∈uniN [tvs t],s.size≤281474976710656
def PtB:Pt→Prop
 | .cmp _ _ a b=>TmB a∧TmB b
 | _=>True
theorem wpList_store_new {P:Program} {ops:Array Oper} {rest:List Oper} {op:Oper} {a:Act} {w:World} {Q:Exit→Act→World→Prop} (hgd:op.guard=none) (ty:TypeId) (x y:Operand) (ho:op.op=.store ty x y)
  (c c':Array Value) (hx:a.eval x=.pointer (some ⟨w.heap.size,0,none⟩)) (hy:a.eval y=.agg c') (hi:(P.info? ty).map (·.size)=some c'.size) (hs:c.size=c'.size) (h1:c'.all (·.oneCell')=true)
  (h:wpList P ops Q rest (a.put op.dst undef) (w.alloc (.cells c' ty))):wpList P ops Q (op::rest) a (w.alloc (.cells c ty)):=
 wpList_plain hgd fun K hK=>by
  unfold Oper.wp execOp
  simp only [ho,hx,hy,run_storeAt_new w ty c c' hi hs h1,Sem.run_bind,Sem.run_pure,Result.andThen_ok]
  exact hK _ _ h
theorem wpList_alloc_z {P:Program} {ops:Array Oper} {rest:List Oper} {o:Oper} {a:Act} {w:World} {Q:Exit→Act→World→Prop} (hgd:o.guard=none) (ty:TypeId) (ho:o.op=.alloc ty) (z:Array Value) (hz:∀ w,(Instr.alloc ty true (.tuple #[])).run P w=.ok (.pointer (some ⟨w.heap.size,0,none⟩)) (w.alloc (.cells z ty))) (h:wpList P ops Q rest (a.put o.dst (.pointer (some ⟨w.heap.size,0,none⟩))) (w.alloc (.cells z ty))):wpList P ops Q (o::rest) a w:=
 wpList_plain hgd fun K hK=>by
  unfold Oper.wp execOp
  simp only [ho,hz w,Sem.run_bind,Sem.run_pure,Result.andThen_ok]
  exact hK _ _ h
abbrev z85:Array Value:=#[.slice none 0 0,.bool false,.int .i64 0,.slice none 0 0,.int .i64 0,.int .i64 0,.string ByteArray.empty,.int .i64 0,.int .i64 0,.int .i64 0,.string ByteArray.empty,.slice none 0 0,.int .i64 0,.string ByteArray.empty,.int .i64 0,.int .i64 0,.int .i64 0,.string ByteArray.empty,.slice none 0 0]
theorem al85 (w:World):(Instr.alloc 85 true (.tuple #[])).run Tryz.prog w=.ok (.pointer (some ⟨w.heap.size,0,none⟩)) (w.alloc (.cells z85 85)):=by kernel_rfl
theorem caseOf_fx (P:Pt) (x:Fx) (u v:Value) (w:World) (hu:PtV w u P) (hv:PtV w v (Pt.fx x)) (hO:PtB (Pt.fx x)):
  Calls Tryz.prog 26 #[u,v] w fun e w'=>e=.returned (.int .i64 (caseP P (Pt.fx x)))∧Below w.heap.size w w':=by
 have CA:Hid (∀ (a:Bool) (r:Int) (pv pb:Option Addr) (nv nb cv cb:Nat) (W:World),Calls Tryz.prog 197 #[.agg #[.slice pv nv cv,.bool a,.int .i64 r,.slice pb nb cb]] W fun e w'=>e=.returned (.agg #[.slice pv nv cv,.bool a,.int .i64 r,.slice pb nb cb])∧Below W.heap.size W w'):=fun a r pv pb nv nb cv cb W=>about_fx (.bool true) (.bool true) a r pv pb nv nb cv cb W
 obtain ⟨T1,vv1,pv1,pb1,cv1,cb1,rfl,hv1, -,hm1⟩:=hu.abt
 cases hv with
 | @fx x uv ub hv hb=>
  obtain ⟨pv2,cv2,rfl, -⟩:=hv.form
  obtain ⟨pb2,cb2,rfl, -⟩:=hb.form
  have HV1:Hid (NmsAt w (.slice pv1 P.about.vars.length cv1) P.about.vars):=hv1
  have cA1:Hid (∀ W:World,Below w.heap.size w W→Calls Tryz.prog 47 #[.slice pv2 x.vars.length cv2,.slice pv1 P.about.vars.length cv1] W fun e w'=>e=.returned (.bool (amg x.vars P.about.vars))∧Below W.heap.size W w'):=fun W hW=>amg_any _ _ _ _ W (hv.below hW) (hv1.below hW)
  obtain ⟨C,eC⟩:∃ C:Bool,Hid (amg x.vars P.about.vars=C):=⟨_,rfl⟩
  obtain ⟨SV,eSV⟩:∃ SV:List ByteArray,Hid (P.about.vars=SV):=⟨_,rfl⟩
  obtain ⟨R,eR⟩:∃ R:Int,Hid (caseP P (Pt.fx x)=R):=⟨_,rfl⟩
  rw [eR.out]
  have HR:Hid ((if P.about.acc=false then 0 else if x.acc then 1 else 0)=R):=by
   have h:(if P.about.acc=false then 0 else if x.acc then 1 else 0)=R:=eR.out
   have hc:amg x.vars P.about.vars=C:=eC.out
   show _=R
   exact h
  rw [eC.out] at cA1
  rw [eSV.out] at cA1 hm1
  have hB0:Below w.heap.size w w:=Below.refl _ _
  have hz0:w.heap.size≤w.heap.size:=Nat.le_refl _
  have hfd:=fld_acc
  have hfd2:=fld_vars
  clear hu hv1 eC eR HV1 hv hb
  generalize P.about.acc=A1 at*
  generalize P.about.reach=r1 at*
  generalize SV.length=n1 at*
  generalize P.about.bare.length=b1 at*
  generalize x.acc=A2 at*
  generalize x.reach=r2 at*
  generalize x.vars.length=n2 at*
  generalize x.bare.length=b2 at*
  have hta:=ta_fx_neg
  have htc:=ta_fx_cmp
  go_enter Tryz.func26,Tryz.ntmps26
  go_wp2_with fail
  refine (CA.out _ _ _ _ _ _ _ _ _).mono ?_
  rintro e w1 ⟨rfl,hb1⟩
  have hB1:Below w.heap.size w w1:=Below.trans (by go_grown) (hb1.mono (by first | omega | (simp;omega)))
  have hz1:=hB1.size
  clear hb1
  go_wp2_with fail
  refine (CA.out _ _ _ _ _ _ _ _ _).mono ?_
  rintro e w2 ⟨rfl,hb2⟩
  have hB2:Below w.heap.size w w2:=Below.trans (by go_grown) (hb2.mono (by first | omega | (simp;omega)))
  have hz2:=hB2.size
  clear hb2
  go_wp2_with fail
  refine (cA1.out _ hB2).mono ?_
  rintro e w3 ⟨rfl,hb3⟩
  have hB3:Below w.heap.size w w3:=Below.trans (by go_grown) (hb3.mono (by first | omega | (simp;omega)))
  have hz3:=hB3.size
  clear hb3
  go_wp2_with fail
  refine (CA.out _ _ _ _ _ _ _ _ _).mono ?_
  rintro e w4 ⟨rfl,hb4⟩
  have hB4:Below w.heap.size w w4:=Below.trans (by go_grown) (hb4.mono (by first | omega | (simp;omega)))
  have hz4:=hB4.size
  clear hb4
  cases A1 with
  | false=>
   have hr:Hid (R=0):=(HR.out.symm)
   clear HR CA cA1 hta htc
   go_wp2
   go_ret
   exact ⟨by rw [hr.out];first | rfl | trivial,by go_grown⟩
  | true=>
   go_wp2_with fail
   refine (CA.out _ _ _ _ _ _ _ _ _).mono ?_
   rintro e w5 ⟨rfl,hb5⟩
   have hB5:Below w.heap.size w w5:=Below.trans (by go_grown) (hb5.mono (by first | omega | (simp;omega)))
   have hz5:=hB5.size
   clear hb5
   cases A2 with
   | true=>
    have hr:Hid (R=1):=(HR.out.symm)
    clear HR CA cA1 hta htc
    go_wp2
    go_ret
    exact ⟨by rw [hr.out];first | rfl | trivial,by go_grown⟩
   | false=>
    have hr:Hid (R=0):=(HR.out.symm)
    clear HR CA cA1
    go_wp2
    go_ret
    exact ⟨by rw [hr.out];first | rfl | trivial,by go_grown⟩
end Go.Proofs.YthodedagbbifbaaGreat
namespace Go.Proofs.YthodedagbbifbaaGreat
open Go.RowKit LX Go.Shelf Go.Sort
set_option linter.unusedVariables false
theorem seqS_any (A B:Value) (xs ys:List ByteArray) (w:World) (hA:NmsAt w A xs) (hB:NmsAt w B ys):Calls Tryz.prog 111 #[A,B] w fun e w'=>e=.returned (.bool (decide (xs=ys)))∧Below w.heap.size w w':=by
 obtain ⟨lx,p,c,rfl,hc,hx⟩:=hA
 obtain ⟨ly,p',c',rfl,hc',hy⟩:=hB
 by_cases hl:xs.length=ys.length
 case neg=>
  refine (Tryz.slices_Equal_string_lens p p' xs.length c ys.length c' w hl).mono fun e w' ⟨h1,h2⟩=>⟨?_,by rw [h2];exact Below.refl _ _⟩
  rw [h1,show decide (xs=ys)=false from decide_eq_false (fun h=>hl (by rw [h]))]
 rcases hx with hx | ⟨b,off,rfl,hb,cx⟩
 ·subst hx
  refine (Tryz.slices_Equal_string_empty p p' c ys.length c' w ly).mono fun e w' ⟨h1,h2⟩=>⟨?_,by rw [h2];exact Below.refl _ _⟩
  have:ys=[]:=List.length_eq_zero_iff.1 (by simpa using hl.symm)
  rw [h1,this]
  rfl
 ·rcases hy with hy | ⟨b',off',rfl,hb',cy⟩
  ·subst hy
   have:xs=[]:=List.length_eq_zero_iff.1 (by simpa using hl)
   subst this
   refine (Tryz.slices_Equal_string_empty _ p' c 0 c' w (by simp)).mono fun e w' ⟨h1,h2⟩=>⟨?_,by rw [h2];exact Below.refl _ _⟩
   rw [h1]
   rfl
  ·refine (Tryz.slices_Equal_string b off xs.length c b' off' ys.length c' xs ys w (Nat.le_refl _) (Nat.le_refl _) lx ly (fun j hj=>by rw [getD_lt _ _ _ hj];exact cx j hj) (fun j hj=>by rw [getD_lt _ _ _ hj];exact cy j hj)).mono fun e w' ⟨h1,q,h2⟩=>⟨?_,by rw [h2];exact bdrewA _ (Below.refl _ _)⟩
   rw [h1,List.take_length,List.take_length]
theorem fit_pred (f:Fm) (q:FQ) (ps:List Pt) (V:Value) (w:World) (hk:f.k=3) (hq:QAt w (f,q)) (hP:PtLst w V ps):
  Calls Tryz.prog 86 #[.agg #[.int .i64 f.k,.string f.nm,.int .i64 f.op,q.v,q.t,.int .i64 f.lo,.int .i64 f.hi,.bool f.opn,q.s,q.r],V] w fun e w'=>e=.returned (.bool (!rckTs f.terms))∧Below w.heap.size w w':=by
 obtain ⟨⟨pv,cv,ev⟩,⟨pt,ct,et⟩,⟨ps_,cs,es⟩,⟨pr,cr,er⟩⟩:=sfm_forms hq
 have hqt:=hq.2.1
 simp only at hqt
 have cT:Hid (∀ W:World,Below w.heap.size w W→Calls Tryz.prog 29 #[q.t,.func (.func 30) #[] #[]] W fun e w'=>e=.returned (.bool (rckTs f.terms))∧Below W.heap.size W w'):=fun W hW=>conT_any f.terms q.t W (hqt.bel hW) (fun i hi u W' hW' hu=>reckons_any _ f.terms[i] u W' (Nat.le_refl _) hu)
 rw [et] at cT
 rw [ev,et,es,er,hk]
 obtain ⟨p,c,eV, -⟩:=hP
 subst eV
 clear hq hqt ev et es er hk
 generalize rckTs f.terms=R at*
 generalize ps.length=np at*
 generalize f.vars.length=nv at*
 generalize f.terms.length=nt at*
 generalize f.subs.length=ns at*
 generalize f.rgx.length=nr at*
 generalize f.nm=nm at*
 generalize f.op=op at*
 generalize f.lo=lo at*
 generalize f.hi=hi at*
 generalize f.opn=o at*
 go_enter Tryz.func86,Tryz.ntmps86
 go_wp2_with fail
 refine (cT.out _ (by go_grown)).mono ?_
 rintro e w1 ⟨rfl,hb1⟩
 have hB:Below w.heap.size w w1:=Below.trans (by go_grown) (hb1.mono (by simp))
 clear hb1 cT
 go_wp2
 go_ret
 exact ⟨rfl,hB⟩
theorem fit_not (f:Fm) (q:FQ) (ps:List Pt) (V:Value) (w:World) (hk:f.k=7) (hq:QAt w (f,q)) (hP:PtLst w V ps) (h0:0<ps.length):
  Calls Tryz.prog 86 #[.agg #[.int .i64 f.k,.string f.nm,.int .i64 f.op,q.v,q.t,.int .i64 f.lo,.int .i64 f.hi,.bool f.opn,q.s,q.r],V] w fun e w'=>e=.returned (.bool ((ptN ps 0).about.vars.isEmpty))∧Below w.heap.size w w':=by
 have CA:Hid (∀ (a:Bool) (r:Int) (pv pb:Option Addr) (nv nb cv cb:Nat) (W:World),Calls Tryz.prog 197 #[.agg #[.slice pv nv cv,.bool a,.int .i64 r,.slice pb nb cb]] W fun e w'=>e=.returned (.agg #[.slice pv nv cv,.bool a,.int .i64 r,.slice pb nb cb])∧Below W.heap.size W w'):=fun a r pv pb nv nb cv cb W=>about_fx (.bool true) (.bool true) a r pv pb nv nb cv cb W
 obtain ⟨⟨pv,cv,ev⟩,⟨pt,ct,et⟩,⟨ps_,cs,es⟩,⟨pr,cr,er⟩⟩:=sfm_forms hq
 obtain ⟨b,off,c,u0,rfl,hbl,e0,p0⟩:=hP.one h0
 obtain ⟨T0,vv0,pv0,pb0,cv0,cb0,rfl, -, -,hm0⟩:=p0.abt
 rw [ev,et,es,er,hk]
 have hE:Hid ((ptN ps 0).about.vars.isEmpty=decide (((ptN ps 0).about.vars.length:Int)=0)):=by
  cases (ptN ps 0).about.vars with
  | nil=>exact (show _=_ from rfl)
  | cons x l=>show _=_;simp;omega
 rw [hE.out]
 clear hq ev et es er hk hP p0 hE
 generalize ps.length=np at*
 generalize (ptN ps 0).about.acc=A0 at*
 generalize (ptN ps 0).about.reach=r0 at*
 generalize (ptN ps 0).about.vars.length=n0 at*
 generalize (ptN ps 0).about.bare.length=b0 at*
 generalize f.vars.length=nv at*
 generalize f.terms.length=nt at*
 generalize f.subs.length=ns at*
 generalize f.rgx.length=nr at*
 generalize f.nm=nm at*
 generalize f.op=op at*
 generalize f.lo=lo at*
 generalize f.hi=hi at*
 generalize f.opn=o at*
 have hnp:(0:Int)<(np:Int):=by omega
 have hfd:=fld_vars
 go_enter Tryz.func86,Tryz.ntmps86
 go_wp2_with fail
 refine (CA.out _ _ _ _ _ _ _ _ _).mono ?_
 rintro e w1 ⟨rfl,hb1⟩
 have hB:Below w.heap.size w w1:=Below.trans (by go_grown) (hb1.mono (by simp))
 clear hb1 CA e0
 go_wp2
 go_ret
 exact ⟨by first | rfl | simp | (congr 2;simp),hB⟩
theorem fit_or (f:Fm) (q:FQ) (ps:List Pt) (V:Value) (w:World) (hk:f.k=9) (hq:QAt w (f,q)) (hP:PtLst w V ps) (h1:1<ps.length):
  Calls Tryz.prog 86 #[.agg #[.int .i64 f.k,.string f.nm,.int .i64 f.op,q.v,q.t,.int .i64 f.lo,.int .i64 f.hi,.bool f.opn,q.s,q.r],V] w fun e w'=>e=.returned (.bool (decide ((ptN ps 0).about.vars=(ptN ps 1).about.vars)))∧Below w.heap.size w w':=by
 have CA:Hid (∀ (a:Bool) (r:Int) (pv pb:Option Addr) (nv nb cv cb:Nat) (W:World),Calls Tryz.prog 197 #[.agg #[.slice pv nv cv,.bool a,.int .i64 r,.slice pb nb cb]] W fun e w'=>e=.returned (.agg #[.slice pv nv cv,.bool a,.int .i64 r,.slice pb nb cb])∧Below W.heap.size W w'):=fun a r pv pb nv nb cv cb W=>about_fx (.bool true) (.bool true) a r pv pb nv nb cv cb W
 obtain ⟨⟨pv,cv,ev⟩,⟨pt,ct,et⟩,⟨ps_,cs,es⟩,⟨pr,cr,er⟩⟩:=sfm_forms hq
 obtain ⟨b,off,c,u0,u1,rfl,hbl,e0,e1,p0,p1⟩:=hP.two h1
 obtain ⟨T0,vv0,pv0,pb0,cv0,cb0,rfl,hn0, -,hm0⟩:=p0.abt
 obtain ⟨T1,vv1,pv1,pb1,cv1,cb1,rfl,hn1, -,hm1⟩:=p1.abt
 have cE:Hid (∀ W:World,Below w.heap.size w W→Calls Tryz.prog 111 #[.slice pv0 (ptN ps 0).about.vars.length cv0,.slice pv1 (ptN ps 1).about.vars.length cv1] W fun e w'=>e=.returned (.bool (decide ((ptN ps 0).about.vars=(ptN ps 1).about.vars)))∧Below W.heap.size W w'):=fun W hW=>seqS_any _ _ _ _ W (hn0.below hW) (hn1.below hW)
 rw [ev,et,es,er,hk]
 clear hq ev et es er hk hP p0 p1 hn0 hn1
 generalize decide ((ptN ps 0).about.vars=(ptN ps 1).about.vars)=R at*
 generalize ps.length=np at*
 generalize (ptN ps 0).about.acc=A0 at*
 generalize (ptN ps 0).about.reach=r0 at*
 generalize (ptN ps 0).about.vars.length=n0 at*
 generalize (ptN ps 0).about.bare.length=b0 at*
 generalize (ptN ps 1).about.acc=A1 at*
 generalize (ptN ps 1).about.reach=r1 at*
 generalize (ptN ps 1).about.vars.length=n1 at*
 generalize (ptN ps 1).about.bare.length=b1 at*
 generalize f.vars.length=nv at*
 generalize f.terms.length=nt at*
 generalize f.subs.length=ns at*
 generalize f.rgx.length=nr at*
 generalize f.nm=nm at*
 generalize f.op=op at*
 generalize f.lo=lo at*
 generalize f.hi=hi at*
 generalize f.opn=o at*
 have hnp0:0<np:=by omega
 have hnp0':(0:Int)<(np:Int):=by omega
 have hnp:(1:Int)<(np:Int):=by omega
 have hfd:=fld_vars
 go_enter Tryz.func86,Tryz.ntmps86
 go_upto_region 13 with fail
 refine wp_world ?_
 intro W0 hW0
 have KW0:Below w.heap.size w W0:=by rw [hW0];go_grown
 have LW0:w.heap.size<W0.heap.size:=by rw [hW0];first | (simp;done) | (simp;omega)
 have q20:W0.cell? ⟨b,off,none⟩=some (.iface T0 vv0):=(KW0.cell (p:=⟨b,off,none⟩) hbl).trans e0
 have q21:W0.cell? ⟨b,off+1,none⟩=some (.iface T1 vv1):=(KW0.cell (p:=⟨b,off+1,none⟩) hbl).trans e1
 have hbW:b<W0.heap.size:=Nat.lt_of_lt_of_le hbl KW0.size
 clear hW0
 have c20:∀ nq osq,(grow (W0.drewN nq) osq).cell? ⟨b,off,none⟩=some (.iface T0 vv0):=fun nq osq=>by rw [scell_grow W0 nq osq hbW];exact q20
 have c21:∀ nq osq,(grow (W0.drewN nq) osq).cell? ⟨b,off+1,none⟩=some (.iface T1 vv1):=fun nq osq=>by rw [scell_grow W0 nq osq hbW];exact q21
 have hc0:∀ nq osq,Calls Tryz.prog 197 #[.agg #[.slice pv0 n0 cv0,.bool A0,.int .i64 r0,.slice pb0 b0 cb0]] (grow (W0.drewN nq) osq) fun e w'=>e=.returned (.agg #[.slice pv0 n0 cv0,.bool A0,.int .i64 r0,.slice pb0 b0 cb0])∧∃ q os',w'=grow ((grow (W0.drewN nq) osq).drewN q) os':=fun nq osq=>(Calls.drawn (CA.out _ _ _ _ _ _ _ _ (grow (W0.drewN nq) osq))).mono fun e w' ⟨he,hb,hd⟩=>⟨he,grown_of_below hb hd⟩
 have hc1:∀ nq osq,Calls Tryz.prog 197 #[.agg #[.slice pv1 n1 cv1,.bool A1,.int .i64 r1,.slice pb1 b1 cb1]] (grow (W0.drewN nq) osq) fun e w'=>e=.returned (.agg #[.slice pv1 n1 cv1,.bool A1,.int .i64 r1,.slice pb1 b1 cb1])∧∃ q os',w'=grow ((grow (W0.drewN nq) osq).drewN q) os':=fun nq osq=>(Calls.drawn (CA.out _ _ _ _ _ _ _ _ (grow (W0.drewN nq) osq))).mono fun e w' ⟨he,hb,hd⟩=>⟨he,grown_of_below hb hd⟩
 have hcE:∀ nq osq,Calls Tryz.prog 111 #[.slice pv0 n0 cv0,.slice pv1 n1 cv1] (grow (W0.drewN nq) osq) fun e w'=>e=.returned (.bool R)∧∃ q os',w'=grow ((grow (W0.drewN nq) osq).drewN q) os':=fun nq osq=>(Calls.drawn (cE.out (grow (W0.drewN nq) osq) (KW0.trans ((sBelow_grow W0 nq osq).mono KW0.size)))).mono fun e w' ⟨he,hb,hd⟩=>⟨he,grown_of_below hb hd⟩
 have mixed:Tryz.prog.follows .mixedOrders=true:=by kernel_rfl
 clear q20 q21 e0 e1 CA cE
 go_quiet_grown (first | (go_at_call_of 197 (Value.bool A0);refine Calls.grown_of (hc0 _ _)) | (go_at_call_of 197 (Value.bool A1);refine Calls.grown_of (hc1 _ _)) | (go_at_call 111;refine Calls.grown_of (hcE _ _)))
 have hw_:Below W0.heap.size W0 (grow (W0.drewN nq) osq):=sBelow_grow W0 nq osq
 clear hc0 hc1 hcE c20 c21
 generalize grow (W0.drewN nq) osq=v1 at hw_ ⊢
 go_wp2
 go_ret
 exact ⟨rfl,KW0.trans (hw_.mono KW0.size)⟩
theorem fit_ex (f:Fm) (q:FQ) (ps:List Pt) (V:Value) (w:World) (hk:f.k=10∨f.k=19) (hq:QAt w (f,q)) (hP:PtLst w V ps) (h0:0<ps.length):
  Calls Tryz.prog 86 #[.agg #[.int .i64 f.k,.string f.nm,.int .i64 f.op,q.v,q.t,.int .i64 f.lo,.int .i64 f.hi,.bool f.opn,q.s,q.r],V] w fun e w'=>e=.returned (.bool (amg f.vars (ptN ps 0).about.vars))∧Below w.heap.size w w':=by
 have CA:Hid (∀ (a:Bool) (r:Int) (pv pb:Option Addr) (nv nb cv cb:Nat) (W:World),Calls Tryz.prog 197 #[.agg #[.slice pv nv cv,.bool a,.int .i64 r,.slice pb nb cb]] W fun e w'=>e=.returned (.agg #[.slice pv nv cv,.bool a,.int .i64 r,.slice pb nb cb])∧Below W.heap.size W w'):=fun a r pv pb nv nb cv cb W=>about_fx (.bool true) (.bool true) a r pv pb nv nb cv cb W
 obtain ⟨⟨pv,cv,ev⟩,⟨pt,ct,et⟩,⟨ps_,cs,es⟩,⟨pr,cr,er⟩⟩:=sfm_forms hq
 obtain ⟨b,off,c,u0,rfl,hbl,e0,p0⟩:=hP.one h0
 obtain ⟨T0,vv0,pv0,pb0,cv0,cb0,rfl,hn0, -,hm0⟩:=p0.abt
 have hqv:=hq.1
 simp only at hqv
 rw [ev] at hqv
 have cA1:Hid (∀ W:World,Below w.heap.size w W→Calls Tryz.prog 47 #[.slice pv f.vars.length cv,.slice pv0 (ptN ps 0).about.vars.length cv0] W fun e w'=>e=.returned (.bool (amg f.vars (ptN ps 0).about.vars))∧Below W.heap.size W w'):=fun W hW=>amg_any _ _ _ _ W (hqv.below hW) (hn0.below hW)
 rw [ev,et,es,er]
 clear hq ev et es er hP p0 hn0 hqv
 generalize amg f.vars (ptN ps 0).about.vars=R at*
 generalize ps.length=np at*
 generalize (ptN ps 0).about.acc=A0 at*
 generalize (ptN ps 0).about.reach=r0 at*
 generalize (ptN ps 0).about.vars.length=n0 at*
 generalize (ptN ps 0).about.bare.length=b0 at*
 generalize f.vars.length=nv at*
 generalize f.terms.length=nt at*
 generalize f.subs.length=ns at*
 generalize f.rgx.length=nr at*
 generalize f.nm=nm at*
 generalize f.op=op at*
 generalize f.lo=lo at*
 generalize f.hi=hi at*
 generalize f.opn=o at*
 have hnp:(0:Int)<(np:Int):=by omega
 have hfd:=fld_vars
 have main:∀ k:Int,k=10∨k=19→Calls Tryz.prog 86 #[.agg #[.int .i64 k,.string nm,.int .i64 op,.slice pv nv cv,.slice pt nt ct,.int .i64 lo,.int .i64 hi,.bool o,.slice ps_ ns cs,.slice pr nr cr],.slice (some ⟨b,off,none⟩) np c] w fun e w'=>e=.returned (.bool (R))∧Below w.heap.size w w':=by
  intro k hk
  rcases hk with rfl | rfl
  all_goals
   go_enter Tryz.func86,Tryz.ntmps86
   go_upto_region 16 with fail
   refine wp_world ?_
   intro W0 hW0
   have KW0:Below w.heap.size w W0:=by rw [hW0];go_grown
   have LW0:w.heap.size<W0.heap.size:=by rw [hW0];first | (simp;done) | (simp;omega)
   have q3:W0.cell? ⟨w.heap.size,3,none⟩=some (.slice pv nv cv):=by rw [hW0];simp (maxDischargeDepth:=12) [go_sem]
   have q20:W0.cell? ⟨b,off,none⟩=some (.iface T0 vv0):=(KW0.cell (p:=⟨b,off,none⟩) hbl).trans e0
   have hbW:b<W0.heap.size:=Nat.lt_of_lt_of_le hbl KW0.size
   clear hW0
   have c20:∀ nq osq,(grow (W0.drewN nq) osq).cell? ⟨b,off,none⟩=some (.iface T0 vv0):=fun nq osq=>by rw [scell_grow W0 nq osq hbW];exact q20
   have c3:∀ nq osq,(grow (W0.drewN nq) osq).cell? ⟨w.heap.size,3,none⟩=some (.slice pv nv cv):=fun nq osq=>by rw [scell_grow W0 nq osq LW0];exact q3
   have hc0:∀ nq osq,Calls Tryz.prog 197 #[.agg #[.slice pv0 n0 cv0,.bool A0,.int .i64 r0,.slice pb0 b0 cb0]] (grow (W0.drewN nq) osq) fun e w'=>e=.returned (.agg #[.slice pv0 n0 cv0,.bool A0,.int .i64 r0,.slice pb0 b0 cb0])∧∃ q os',w'=grow ((grow (W0.drewN nq) osq).drewN q) os':=fun nq osq=>(Calls.drawn (CA.out _ _ _ _ _ _ _ _ (grow (W0.drewN nq) osq))).mono fun e w' ⟨he,hb,hd⟩=>⟨he,grown_of_below hb hd⟩
   have hcA:∀ nq osq,Calls Tryz.prog 47 #[.slice pv nv cv,.slice pv0 n0 cv0] (grow (W0.drewN nq) osq) fun e w'=>e=.returned (.bool R)∧∃ q os',w'=grow ((grow (W0.drewN nq) osq).drewN q) os':=fun nq osq=>(Calls.drawn (cA1.out (grow (W0.drewN nq) osq) (KW0.trans ((sBelow_grow W0 nq osq).mono KW0.size)))).mono fun e w' ⟨he,hb,hd⟩=>⟨he,grown_of_below hb hd⟩
   have mixed:Tryz.prog.follows .mixedOrders=true:=by kernel_rfl
   clear q20 q3
   go_quiet_grown (first | (go_at_call 197;refine Calls.grown_of (hc0 _ _)) | (go_at_call 47;refine Calls.grown_of (hcA _ _)))
   have hw_:Below W0.heap.size W0 (grow (W0.drewN nq) osq):=sBelow_grow W0 nq osq
   clear hc0 hcA c20 c3
   generalize grow (W0.drewN nq) osq=v1 at hw_ ⊢
   have Kv1:Below w.heap.size w v1:=KW0.trans (hw_.mono KW0.size)
   clear hw_
   go_wp2
   go_ret
   exact ⟨rfl,by go_grown⟩
 exact main f.k hk
theorem fit_next (f:Fm) (q:FQ) (ps:List Pt) (V:Value) (w:World) (hk:f.k=12∨f.k=14∨f.k=18) (hq:QAt w (f,q)) (hP:PtLst w V ps):
  Calls Tryz.prog 86 #[.agg #[.int .i64 f.k,.string f.nm,.int .i64 f.op,q.v,q.t,.int .i64 f.lo,.int .i64 f.hi,.bool f.opn,q.s,q.r],V] w fun e w'=>e=.returned (.bool (!f.opn))∧Below w.heap.size w w':=by
 obtain ⟨⟨pv,cv,ev⟩,⟨pt,ct,et⟩,⟨ps_,cs,es⟩,⟨pr,cr,er⟩⟩:=sfm_forms hq
 obtain ⟨p,c,eV, -⟩:=hP
 subst eV
 rw [ev,et,es,er]
 clear hq ev et es er
 generalize ps.length=np at*
 generalize f.vars.length=nv at*
 generalize f.terms.length=nt at*
 generalize f.subs.length=ns at*
 generalize f.rgx.length=nr at*
 generalize f.nm=nm at*
 generalize f.op=op at*
 generalize f.lo=lo at*
 generalize f.hi=hi at*
 generalize f.opn=o at*
 have main:∀ k:Int,k=12∨k=14∨k=18→Calls Tryz.prog 86 #[.agg #[.int .i64 k,.string nm,.int .i64 op,.slice pv nv cv,.slice pt nt ct,.int .i64 lo,.int .i64 hi,.bool o,.slice ps_ ns cs,.slice pr nr cr],.slice p np c] w fun e w'=>e=.returned (.bool (!o))∧Below w.heap.size w w':=by
  intro k hk
  rcases hk with rfl | rfl | rfl
  all_goals
   go_enter Tryz.func86,Tryz.ntmps86
   go_wp2
   go_ret
   exact ⟨rfl,by go_grown⟩
 exact main f.k hk
theorem fit_other (f:Fm) (q:FQ) (ps:List Pt) (V:Value) (w:World) (hk:¬ (f.k=3∨f.k=4∨f.k=5∨f.k=6∨f.k=7∨f.k=9∨f.k=10∨f.k=12∨f.k=14∨f.k=18∨f.k=19∨f.k=20∨f.k=21)) (hq:QAt w (f,q)) (hP:PtLst w V ps):
  Calls Tryz.prog 86 #[.agg #[.int .i64 f.k,.string f.nm,.int .i64 f.op,q.v,q.t,.int .i64 f.lo,.int .i64 f.hi,.bool f.opn,q.s,q.r],V] w fun e w'=>e=.returned (.bool (true))∧Below w.heap.size w w':=by
 obtain ⟨⟨pv,cv,ev⟩,⟨pt,ct,et⟩,⟨ps_,cs,es⟩,⟨pr,cr,er⟩⟩:=sfm_forms hq
 obtain ⟨p,c,eV, -⟩:=hP
 subst eV
 rw [ev,et,es,er]
 have g3:¬ f.k=3:=by omega
 have g4:¬ f.k=4:=by omega
 have g5:¬ f.k=5:=by omega
 have g6:¬ f.k=6:=by omega
 have g7:¬ f.k=7:=by omega
 have g9:¬ f.k=9:=by omega
 have g10:¬ f.k=10:=by omega
 have g12:¬ f.k=12:=by omega
 have g14:¬ f.k=14:=by omega
 have g18:¬ f.k=18:=by omega
 have g19:¬ f.k=19:=by omega
 have g20:¬ f.k=20:=by omega
 have g21:¬ f.k=21:=by omega
 clear hq ev et es er hk
 generalize ps.length=np at*
 generalize f.vars.length=nv at*
 generalize f.terms.length=nt at*
 generalize f.subs.length=ns at*
 generalize f.rgx.length=nr at*
 generalize f.nm=nm at*
 generalize f.op=op at*
 generalize f.lo=lo at*
 generalize f.hi=hi at*
 generalize f.opn=o at*
 generalize f.k=k at*
 go_enter Tryz.func86,Tryz.ntmps86
 go_wp2
 go_ret
 exact ⟨rfl,by go_grown⟩
theorem tms_two {w:World} {V:Value} {ts:List Tm} (h:TmsAt w V ts) (h1:1<ts.length):∃ b off c u0 u1,V=.slice (some ⟨b,off,none⟩) ts.length c∧b<w.heap.size∧TmC w b off (tmN ts 0) u0∧TmC w b (off+7) (tmN ts 1) u1∧TmsAt w u0 (tmN ts 0).subs∧TmsAt w u1 (tmN ts 1).subs∧(tmN ts 0).v.Fits∧(tmN ts 1).v.Fits∧tmN ts 0∈ts∧tmN ts 1∈ts:=by
 have n0:tmN ts 0=ts[0]:=by unfold tmN;rw [List.getD_eq_getElem?_getD,List.getElem?_eq_getElem (by omega)];rfl
 have n1:tmN ts 1=ts[1]:=by unfold tmN;rw [List.getD_eq_getElem?_getD,List.getElem?_eq_getElem h1];rfl
 obtain ⟨p,c,rfl, -, -,hx⟩:=h.form
 obtain ⟨b,off,u0,rfl,hb,c0,s0,f0⟩:=hx 0 (by omega)
 obtain ⟨b',off',u1,e,hb',c1,s1,f1⟩:=hx 1 h1
 injection e with e
 injection e with e1 e2
 subst e1 e2
 rw [n0,n1]
 rw [Nat.zero_mul,Nat.add_zero] at c0
 rw [Nat.one_mul] at c1
 exact ⟨b,off,c,u0,u1,rfl,hb,c0,c1,s0,s1,f0,f1,List.getElem_mem _,List.getElem_mem _⟩
theorem fit_less (f:Fm) (q:FQ) (ps:List Pt) (V:Value) (w:World) (hk:f.k=5∨f.k=6) (hq:QAt w (f,q)) (hP:PtLst w V ps) (h2:1<f.terms.length) (hB:∀ t∈f.terms,TmB t):
  Calls Tryz.prog 86 #[.agg #[.int .i64 f.k,.string f.nm,.int .i64 f.op,q.v,q.t,.int .i64 f.lo,.int .i64 f.hi,.bool f.opn,q.s,q.r],V] w fun e w'=>e=.returned (.bool (fixT (tmN f.terms 0) && fixT (tmN f.terms 1)))∧Below w.heap.size w w':=by
 have hqt:=hq.2.1
 simp only at hqt
 obtain ⟨b,off,ct,u0,u1,et,hbl,c0,c1,s0,s1,f0,f1,m0,m1⟩:=tms_two hqt h2
 obtain ⟨⟨pv,cv,ev⟩, -,⟨ps_,cs,es⟩,⟨pr,cr,er⟩⟩:=sfm_forms hq
 have cF0:Hid (∀ W:World,Below w.heap.size w W→Calls Tryz.prog 116 #[.agg #[.int .i64 (tmN f.terms 0).k,.string (tmN f.terms 0).nm,.int .i64 (tmN f.terms 0).v.k,.int .i64 (tmN f.terms 0).v.n,.int .i64 (tmN f.terms 0).v.d,.string (tmN f.terms 0).v.s,u0]] W fun e w'=>e=.returned (.bool (fixT (tmN f.terms 0)))∧Below W.heap.size W w'):=fun W hW=>isFixed_any _ u0 W (s0.bel hW) f0 (hB _ m0).1 (hB _ m0).2
 have cF1:Hid (∀ W:World,Below w.heap.size w W→Calls Tryz.prog 116 #[.agg #[.int .i64 (tmN f.terms 1).k,.string (tmN f.terms 1).nm,.int .i64 (tmN f.terms 1).v.k,.int .i64 (tmN f.terms 1).v.n,.int .i64 (tmN f.terms 1).v.d,.string (tmN f.terms 1).v.s,u1]] W fun e w'=>e=.returned (.bool (fixT (tmN f.terms 1)))∧Below W.heap.size W w'):=fun W hW=>isFixed_any _ u1 W (s1.bel hW) f1 (hB _ m1).1 (hB _ m1).2
 obtain ⟨pa,ca,rfl, -⟩:=s0.form
 obtain ⟨pb,cb,rfl, -⟩:=s1.form
 obtain ⟨a0,a1,a2,a3,a4,a5,a6⟩:=c0
 obtain ⟨e0,e1,e2,e3,e4,e5,e6⟩:=c1
 obtain ⟨p,c,eV, -⟩:=hP
 subst eV
 rw [ev,et,es,er]
 clear hq hqt ev et es er s0 s1 f0 f1 m0 m1 hB
 generalize fixT (tmN f.terms 0)=F0 at*
 generalize fixT (tmN f.terms 1)=F1 at*
 generalize ps.length=np at*
 generalize (tmN f.terms 0).subs.length=aq at*
 generalize (tmN f.terms 0).k=ak at*
 generalize (tmN f.terms 0).nm=anm at*
 generalize (tmN f.terms 0).v.k=avk at*
 generalize (tmN f.terms 0).v.n=avn at*
 generalize (tmN f.terms 0).v.d=avd at*
 generalize (tmN f.terms 0).v.s=avs at*
 generalize (tmN f.terms 1).subs.length=bq at*
 generalize (tmN f.terms 1).k=bk at*
 generalize (tmN f.terms 1).nm=bnm at*
 generalize (tmN f.terms 1).v.k=bvk at*
 generalize (tmN f.terms 1).v.n=bvn at*
 generalize (tmN f.terms 1).v.d=bvd at*
 generalize (tmN f.terms 1).v.s=bvs at*
 generalize f.vars.length=nv at*
 generalize f.terms.length=nt at*
 generalize f.subs.length=ns at*
 generalize f.rgx.length=nr at*
 generalize f.nm=nm at*
 generalize f.op=op at*
 generalize f.lo=lo at*
 generalize f.hi=hi at*
 generalize f.opn=o at*
 have hnt:(1:Int)<(nt:Int):=by omega
 have hnt0:(0:Int)<(nt:Int):=by omega
 have hnt0':0<nt:=by omega
 have main:∀ k:Int,k=5∨k=6→Calls Tryz.prog 86 #[.agg #[.int .i64 k,.string nm,.int .i64 op,.slice pv nv cv,.slice (some ⟨b,off,none⟩) nt ct,.int .i64 lo,.int .i64 hi,.bool o,.slice ps_ ns cs,.slice pr nr cr],.slice p np c] w fun e w'=>e=.returned (.bool (F0 && F1))∧Below w.heap.size w w':=by
  intro k hk
  rcases hk with rfl | rfl
  all_goals
   go_enter Tryz.func86,Tryz.ntmps86
   go_wp2_with fail
   refine (cF0.out _ (by go_grown)).mono ?_
   rintro e w1 ⟨rfl,hb1⟩
   have KK:Below w.heap.size w w1:=Below.trans (by go_grown) (hb1.mono (by simp))
   have hbx:w1.cell? ⟨w.heap.size,4,none⟩=some (.slice (some ⟨b,off,none⟩) nt ct):=(hb1.cell (p:=⟨w.heap.size,4,none⟩) (by simp)).trans (by simp (maxDischargeDepth:=12) [go_sem])
   have d0:=(KK.cell (p:=⟨b,off,none⟩) hbl).trans a0
   have d1:=(KK.cell (p:=⟨b,off+1,none⟩) hbl).trans a1
   have d2:=(KK.cell (p:=⟨b,off+2,none⟩) hbl).trans a2
   have d3:=(KK.cell (p:=⟨b,off+3,none⟩) hbl).trans a3
   have d4:=(KK.cell (p:=⟨b,off+4,none⟩) hbl).trans a4
   have d5:=(KK.cell (p:=⟨b,off+5,none⟩) hbl).trans a5
   have d6:=(KK.cell (p:=⟨b,off+6,none⟩) hbl).trans a6
   have g0:=(KK.cell (p:=⟨b,off+7,none⟩) hbl).trans e0
   have g1:=(KK.cell (p:=⟨b,off+7+1,none⟩) hbl).trans e1
   have g2:=(KK.cell (p:=⟨b,off+7+2,none⟩) hbl).trans e2
   have g3:=(KK.cell (p:=⟨b,off+7+3,none⟩) hbl).trans e3
   have g4:=(KK.cell (p:=⟨b,off+7+4,none⟩) hbl).trans e4
   have g5:=(KK.cell (p:=⟨b,off+7+5,none⟩) hbl).trans e5
   have g6:=(KK.cell (p:=⟨b,off+7+6,none⟩) hbl).trans e6
   clear hb1 cF0 a0 a1 a2 a3 a4 a5 a6 e0 e1 e2 e3 e4 e5 e6
   cases F0 with
   | false=>
    clear cF1
    go_wp2
    go_ret
    exact ⟨by simp,KK⟩
   | true=>
    go_wp2_with fail
    refine (cF1.out _ KK).mono ?_
    rintro e w2 ⟨rfl,hb2⟩
    have KK2:Below w.heap.size w w2:=KK.trans (hb2.mono KK.size)
    clear hb2 cF1
    go_wp2
    go_ret
    exact ⟨by simp,KK2⟩
 exact main f.k hk
theorem fit_eq (f:Fm) (q:FQ) (ps:List Pt) (V:Value) (w:World) (hk:f.k=4) (hq:QAt w (f,q)) (hP:PtLst w V ps) (h2:1<f.terms.length) (hB:∀ t∈f.terms,TmB t):
  Calls Tryz.prog 86 #[.agg #[.int .i64 f.k,.string f.nm,.int .i64 f.op,q.v,q.t,.int .i64 f.lo,.int .i64 f.hi,.bool f.opn,q.s,q.r],V] w fun e w'=>e=.returned (.bool ((fixT (tmN f.terms 1) && (fixT (tmN f.terms 0) || decide ((tmN f.terms 0).k=1))) || (fixT (tmN f.terms 0) && decide ((tmN f.terms 1).k=1))))∧Below w.heap.size w w':=by
 have hqt:=hq.2.1
 simp only at hqt
 obtain ⟨b,off,ct,u0,u1,et,hbl,c0,c1,s0,s1,f0,f1,m0,m1⟩:=tms_two hqt h2
 obtain ⟨⟨pv,cv,ev⟩, -,⟨ps_,cs,es⟩,⟨pr,cr,er⟩⟩:=sfm_forms hq
 have cF0:Hid (∀ W:World,Below w.heap.size w W→Calls Tryz.prog 116 #[.agg #[.int .i64 (tmN f.terms 0).k,.string (tmN f.terms 0).nm,.int .i64 (tmN f.terms 0).v.k,.int .i64 (tmN f.terms 0).v.n,.int .i64 (tmN f.terms 0).v.d,.string (tmN f.terms 0).v.s,u0]] W fun e w'=>e=.returned (.bool (fixT (tmN f.terms 0)))∧Below W.heap.size W w'):=fun W hW=>isFixed_any _ u0 W (s0.bel hW) f0 (hB _ m0).1 (hB _ m0).2
 have cF1:Hid (∀ W:World,Below w.heap.size w W→Calls Tryz.prog 116 #[.agg #[.int .i64 (tmN f.terms 1).k,.string (tmN f.terms 1).nm,.int .i64 (tmN f.terms 1).v.k,.int .i64 (tmN f.terms 1).v.n,.int .i64 (tmN f.terms 1).v.d,.string (tmN f.terms 1).v.s,u1]] W fun e w'=>e=.returned (.bool (fixT (tmN f.terms 1)))∧Below W.heap.size W w'):=fun W hW=>isFixed_any _ u1 W (s1.bel hW) f1 (hB _ m1).1 (hB _ m1).2
 obtain ⟨pa,ca,rfl, -⟩:=s0.form
 obtain ⟨pb,cb,rfl, -⟩:=s1.form
 obtain ⟨a0,a1,a2,a3,a4,a5,a6⟩:=c0
 obtain ⟨e0,e1,e2,e3,e4,e5,e6⟩:=c1
 obtain ⟨p,c,eV, -⟩:=hP
 subst eV
 rw [ev,et,es,er,hk]
 clear hk hq hqt ev et es er s0 s1 f0 f1 m0 m1 hB
 generalize fixT (tmN f.terms 0)=F0 at*
 generalize fixT (tmN f.terms 1)=F1 at*
 generalize ps.length=np at*
 generalize (tmN f.terms 0).subs.length=aq at*
 generalize (tmN f.terms 0).k=ak at*
 generalize (tmN f.terms 0).nm=anm at*
 generalize (tmN f.terms 0).v.k=avk at*
 generalize (tmN f.terms 0).v.n=avn at*
 generalize (tmN f.terms 0).v.d=avd at*
 generalize (tmN f.terms 0).v.s=avs at*
 generalize (tmN f.terms 1).subs.length=bq at*
 generalize (tmN f.terms 1).k=bk at*
 generalize (tmN f.terms 1).nm=bnm at*
 generalize (tmN f.terms 1).v.k=bvk at*
 generalize (tmN f.terms 1).v.n=bvn at*
 generalize (tmN f.terms 1).v.d=bvd at*
 generalize (tmN f.terms 1).v.s=bvs at*
 generalize f.vars.length=nv at*
 generalize f.terms.length=nt at*
 generalize f.subs.length=ns at*
 generalize f.rgx.length=nr at*
 generalize f.nm=nm at*
 generalize f.op=op at*
 generalize f.lo=lo at*
 generalize f.hi=hi at*
 generalize f.opn=o at*
 have hnt:(1:Int)<(nt:Int):=by omega
 have hnt0:(0:Int)<(nt:Int):=by omega
 have hnt0':0<nt:=by omega
 go_enter Tryz.func86,Tryz.ntmps86
 go_upto_region 5 with fail
 refine wp_world ?_
 intro W0 hW0
 have KW0:Below w.heap.size w W0:=by rw [hW0];go_grown
 have LW0:w.heap.size<W0.heap.size:=by rw [hW0];first | (simp;done) | (simp;omega)
 have q4:W0.cell? ⟨w.heap.size,4,none⟩=some (.slice (some ⟨b,off,none⟩) nt ct):=by rw [hW0];simp (maxDischargeDepth:=12) [go_sem]
 have hbW:b<W0.heap.size:=Nat.lt_of_lt_of_le hbl KW0.size
 have KK:=KW0
 have d0:=(KK.cell (p:=⟨b,off,none⟩) hbl).trans a0
 have d1:=(KK.cell (p:=⟨b,off+1,none⟩) hbl).trans a1
 have d2:=(KK.cell (p:=⟨b,off+2,none⟩) hbl).trans a2
 have d3:=(KK.cell (p:=⟨b,off+3,none⟩) hbl).trans a3
 have d4:=(KK.cell (p:=⟨b,off+4,none⟩) hbl).trans a4
 have d5:=(KK.cell (p:=⟨b,off+5,none⟩) hbl).trans a5
 have d6:=(KK.cell (p:=⟨b,off+6,none⟩) hbl).trans a6
 have g0:=(KK.cell (p:=⟨b,off+7,none⟩) hbl).trans e0
 have g1:=(KK.cell (p:=⟨b,off+7+1,none⟩) hbl).trans e1
 have g2:=(KK.cell (p:=⟨b,off+7+2,none⟩) hbl).trans e2
 have g3:=(KK.cell (p:=⟨b,off+7+3,none⟩) hbl).trans e3
 have g4:=(KK.cell (p:=⟨b,off+7+4,none⟩) hbl).trans e4
 have g5:=(KK.cell (p:=⟨b,off+7+5,none⟩) hbl).trans e5
 have g6:=(KK.cell (p:=⟨b,off+7+6,none⟩) hbl).trans e6
 clear hW0
 clear a0 a1 a2 a3 a4 a5 a6 e0 e1 e2 e3 e4 e5 e6 KK
 go_cut [5,6] (fun s5 s6 wx=>∃ B5 B6,s5=.pointer (some ⟨B5,0,none⟩)∧s6=.pointer (some ⟨B6,0,none⟩)∧B5<wx.heap.size∧B6<wx.heap.size∧(wx.cell? ⟨B5,0,none⟩=some (.int .i64 ak)∧wx.cell? ⟨B5,1,none⟩=some (.string anm)∧wx.cell? ⟨B5,2,none⟩=some (.int .i64 avk)∧wx.cell? ⟨B5,3,none⟩=some (.int .i64 avn)∧wx.cell? ⟨B5,4,none⟩=some (.int .i64 avd)∧wx.cell? ⟨B5,5,none⟩=some (.string avs)∧wx.cell? ⟨B5,6,none⟩=some (.slice pa aq ca))∧(wx.cell? ⟨B6,0,none⟩=some (.int .i64 bk)∧wx.cell? ⟨B6,1,none⟩=some (.string bnm)∧wx.cell? ⟨B6,2,none⟩=some (.int .i64 bvk)∧wx.cell? ⟨B6,3,none⟩=some (.int .i64 bvn)∧wx.cell? ⟨B6,4,none⟩=some (.int .i64 bvd)∧wx.cell? ⟨B6,5,none⟩=some (.string bvs)∧wx.cell? ⟨B6,6,none⟩=some (.slice pb bq cb))∧Below w.heap.size w wx)
 case first=>
  clear cF0 cF1
  go_region_held3 (fun W=>W.cell? ⟨w.heap.size,4,none⟩=some (.slice (some ⟨b,off,none⟩) nt ct)∧W.cell? ⟨b,off,none⟩=some (.int .i64 ak)∧W.cell? ⟨b,off+1,none⟩=some (.string anm)∧W.cell? ⟨b,off+2,none⟩=some (.int .i64 avk)∧W.cell? ⟨b,off+3,none⟩=some (.int .i64 avn)∧W.cell? ⟨b,off+4,none⟩=some (.int .i64 avd)∧W.cell? ⟨b,off+5,none⟩=some (.string avs)∧W.cell? ⟨b,off+6,none⟩=some (.slice pa aq ca)∧W.cell? ⟨b,off+7,none⟩=some (.int .i64 bk)∧W.cell? ⟨b,off+7+1,none⟩=some (.string bnm)∧W.cell? ⟨b,off+7+2,none⟩=some (.int .i64 bvk)∧W.cell? ⟨b,off+7+3,none⟩=some (.int .i64 bvn)∧W.cell? ⟨b,off+7+4,none⟩=some (.int .i64 bvd)∧W.cell? ⟨b,off+7+5,none⟩=some (.string bvs)∧W.cell? ⟨b,off+7+6,none⟩=some (.slice pb bq cb)) (exact ⟨bcl (n:=W0.heap.size) (by go_grown) q4 LW0,bcl (n:=W0.heap.size) (by go_grown) d0 hbW,bcl (n:=W0.heap.size) (by go_grown) d1 hbW,bcl (n:=W0.heap.size) (by go_grown) d2 hbW,bcl (n:=W0.heap.size) (by go_grown) d3 hbW,bcl (n:=W0.heap.size) (by go_grown) d4 hbW,bcl (n:=W0.heap.size) (by go_grown) d5 hbW,bcl (n:=W0.heap.size) (by go_grown) d6 hbW,bcl (n:=W0.heap.size) (by go_grown) g0 hbW,bcl (n:=W0.heap.size) (by go_grown) g1 hbW,bcl (n:=W0.heap.size) (by go_grown) g2 hbW,bcl (n:=W0.heap.size) (by go_grown) g3 hbW,bcl (n:=W0.heap.size) (by go_grown) g4 hbW,bcl (n:=W0.heap.size) (by go_grown) g5 hbW,bcl (n:=W0.heap.size) (by go_grown) g6 hbW⟩) (first | fail)
  all_goals
   go_wp2_with fail
   go_meet
   exact ⟨_,_,rfl,rfl,by simp (maxDischargeDepth:=12) [go_sem],by simp (maxDischargeDepth:=12) [go_sem],⟨by simp (maxDischargeDepth:=12) [go_sem],by simp (maxDischargeDepth:=12) [go_sem],by simp (maxDischargeDepth:=12) [go_sem],by simp (maxDischargeDepth:=12) [go_sem],by simp (maxDischargeDepth:=12) [go_sem],by simp (maxDischargeDepth:=12) [go_sem],by simp (maxDischargeDepth:=12) [go_sem]⟩,⟨by simp (maxDischargeDepth:=12) [go_sem],by simp (maxDischargeDepth:=12) [go_sem],by simp (maxDischargeDepth:=12) [go_sem],by simp (maxDischargeDepth:=12) [go_sem],by simp (maxDischargeDepth:=12) [go_sem],by simp (maxDischargeDepth:=12) [go_sem],by simp (maxDischargeDepth:=12) [go_sem]⟩,KW0.trans (Below.mono (B:=W0.heap.size) (by go_grown) KW0.size)⟩
 case rest=>
 obtain ⟨B5,B6,rfl,rfl,l5,l6,⟨x0,x1,x2,x3,x4,x5,x6⟩,⟨y0,y1,y2,y3,y4,y5,y6⟩,KB⟩:=hcut
 clear d0 d1 d2 d3 d4 d5 d6 g0 g1 g2 g3 g4 g5 g6 q4
 go_wp2_with fail
 refine (cF1.out _ KB).mono ?_
 rintro e w1 ⟨rfl,hb1⟩
 have K1:Below w.heap.size w w1:=KB.trans (hb1.mono KB.size)
 have z0:=(hb1.cell (p:=⟨B5,0,none⟩) l5).trans x0
 have z1:=(hb1.cell (p:=⟨B5,1,none⟩) l5).trans x1
 have z2:=(hb1.cell (p:=⟨B5,2,none⟩) l5).trans x2
 have z3:=(hb1.cell (p:=⟨B5,3,none⟩) l5).trans x3
 have z4:=(hb1.cell (p:=⟨B5,4,none⟩) l5).trans x4
 have z5:=(hb1.cell (p:=⟨B5,5,none⟩) l5).trans x5
 have z6:=(hb1.cell (p:=⟨B5,6,none⟩) l5).trans x6
 have yy:=(hb1.cell (p:=⟨B6,0,none⟩) l6).trans y0
 have l5':B5<w1.heap.size:=Nat.lt_of_lt_of_le l5 hb1.size
 have l6':B6<w1.heap.size:=Nat.lt_of_lt_of_le l6 hb1.size
 clear hb1 cF1 x0 x1 x2 x3 x4 x5 x6 y0 y1 y2 y3 y4 y5 y6
 cases F1 with
 | true=>
  go_wp2_with fail
  refine (cF0.out _ K1).mono ?_
  rintro e w2 ⟨rfl,hb2⟩
  have K2:Below w.heap.size w w2:=K1.trans (hb2.mono K1.size)
  have zz:=(hb2.cell (p:=⟨B5,0,none⟩) l5').trans z0
  have v0:=(hb2.cell (p:=⟨B5,0,none⟩) l5').trans z0
  have v1:=(hb2.cell (p:=⟨B5,1,none⟩) l5').trans z1
  have v2:=(hb2.cell (p:=⟨B5,2,none⟩) l5').trans z2
  have v3:=(hb2.cell (p:=⟨B5,3,none⟩) l5').trans z3
  have v4:=(hb2.cell (p:=⟨B5,4,none⟩) l5').trans z4
  have v5:=(hb2.cell (p:=⟨B5,5,none⟩) l5').trans z5
  have v6:=(hb2.cell (p:=⟨B5,6,none⟩) l5').trans z6
  have yy2:=(hb2.cell (p:=⟨B6,0,none⟩) l6').trans yy
  clear hb2 z0 z1 z2 z3 z4 z5 z6 yy
  cases F0 with
  | true=>
   clear cF0
   go_wp2
   go_ret
   exact ⟨by simp,K2⟩
  | false=>
   by_cases h1:ak=1
   ·subst h1
    clear cF0
    go_wp2
    go_ret
    exact ⟨by simp,K2⟩
   ·go_wp2_with fail
    refine (cF0.out _ K2).mono ?_
    rintro e w3 ⟨rfl,hb3⟩
    have K3:Below w.heap.size w w3:=K2.trans (hb3.mono K2.size)
    clear hb3 cF0
    go_wp2
    go_ret
    exact ⟨by simp [h1],K3⟩
 | false=>
  go_wp2_with fail
  refine (cF0.out _ K1).mono ?_
  rintro e w2 ⟨rfl,hb2⟩
  have K2:Below w.heap.size w w2:=K1.trans (hb2.mono K1.size)
  have yy2:=(hb2.cell (p:=⟨B6,0,none⟩) l6').trans yy
  clear hb2 z0 z1 z2 z3 z4 z5 z6 yy cF0
  cases F0 with
  | true=>
   by_cases h1:bk=1
   ·subst h1
    go_wp2
    go_ret
    exact ⟨by simp,K2⟩
   ·go_wp2
    go_ret
    exact ⟨by simp [h1],K2⟩
  | false=>
   go_wp2
   go_ret
   exact ⟨by simp,K2⟩
theorem fit_let (f:Fm) (q:FQ) (ps:List Pt) (V:Value) (w:World) (hk:f.k=20) (hq:QAt w (f,q)) (hP:PtLst w V ps) (h0:0<ps.length):
  Calls Tryz.prog 86 #[.agg #[.int .i64 f.k,.string f.nm,.int .i64 f.op,q.v,q.t,.int .i64 f.lo,.int .i64 f.hi,.bool f.opn,q.s,q.r],V] w fun e w'=>e=.returned (.bool (listP f.vars (ptN ps 0)))∧Below w.heap.size w w':=by
 obtain ⟨⟨pv,cv,ev⟩,⟨pt,ct,et⟩,⟨ps_,cs,es⟩,⟨pr,cr,er⟩⟩:=sfm_forms hq
 obtain ⟨b,off,c,u0,rfl,hbl,e0,p0⟩:=hP.one h0
 have cL:Hid (∀ W:World,Below w.heap.size w W→Calls Tryz.prog 117 #[.agg #[.int .i64 f.k,.string f.nm,.int .i64 f.op,q.v,q.t,.int .i64 f.lo,.int .i64 f.hi,.bool f.opn,q.s,q.r],u0] W fun e w'=>e=.returned (.bool (listP f.vars (ptN ps 0)))∧Below W.heap.size W w'):=fun W hW=>isListed_any f q (ptN ps 0) u0 W (hq.below hW) (p0.keep hW)
 obtain ⟨T0,vv0,rfl⟩:=p0.lens
 rw [ev,et,es,er,hk] at cL ⊢
 clear hq ev et es er hk hP p0
 generalize listP f.vars (ptN ps 0)=L at*
 generalize ps.length=np at*
 generalize f.vars.length=nv at*
 generalize f.terms.length=nt at*
 generalize f.subs.length=ns at*
 generalize f.rgx.length=nr at*
 generalize f.nm=nm at*
 generalize f.op=op at*
 generalize f.lo=lo at*
 generalize f.hi=hi at*
 generalize f.opn=o at*
 have hnp:(0:Int)<(np:Int):=by omega
 go_enter Tryz.func86,Tryz.ntmps86
 go_upto_region 22 with fail
 refine wp_world ?_
 intro W0 hW0
 have KW0:Below w.heap.size w W0:=by rw [hW0];go_grown
 have LW0:w.heap.size<W0.heap.size:=by rw [hW0];first | (simp;done) | (simp;omega)
 have q0:W0.cell? ⟨w.heap.size,0,none⟩=some (.int .i64 20):=by rw [hW0];simp (maxDischargeDepth:=12) [go_sem]
 have q1:W0.cell? ⟨w.heap.size,1,none⟩=some (.string nm):=by rw [hW0];simp (maxDischargeDepth:=12) [go_sem]
 have q2:W0.cell? ⟨w.heap.size,2,none⟩=some (.int .i64 op):=by rw [hW0];simp (maxDischargeDepth:=12) [go_sem]
 have q3:W0.cell? ⟨w.heap.size,3,none⟩=some (.slice pv nv cv):=by rw [hW0];simp (maxDischargeDepth:=12) [go_sem]
 have q4:W0.cell? ⟨w.heap.size,4,none⟩=some (.slice pt nt ct):=by rw [hW0];simp (maxDischargeDepth:=12) [go_sem]
 have q5:W0.cell? ⟨w.heap.size,5,none⟩=some (.int .i64 lo):=by rw [hW0];simp (maxDischargeDepth:=12) [go_sem]
 have q6:W0.cell? ⟨w.heap.size,6,none⟩=some (.int .i64 hi):=by rw [hW0];simp (maxDischargeDepth:=12) [go_sem]
 have q7:W0.cell? ⟨w.heap.size,7,none⟩=some (.bool o):=by rw [hW0];simp (maxDischargeDepth:=12) [go_sem]
 have q8:W0.cell? ⟨w.heap.size,8,none⟩=some (.slice ps_ ns cs):=by rw [hW0];simp (maxDischargeDepth:=12) [go_sem]
 have q9:W0.cell? ⟨w.heap.size,9,none⟩=some (.slice pr nr cr):=by rw [hW0];simp (maxDischargeDepth:=12) [go_sem]
 have q20:W0.cell? ⟨b,off,none⟩=some (.iface T0 vv0):=(KW0.cell (p:=⟨b,off,none⟩) hbl).trans e0
 have hbW:b<W0.heap.size:=Nat.lt_of_lt_of_le hbl KW0.size
 clear hW0
 have c20:∀ nq osq,(grow (W0.drewN nq) osq).cell? ⟨b,off,none⟩=some (.iface T0 vv0):=fun nq osq=>by rw [scell_grow W0 nq osq hbW];exact q20
 have c0:∀ nq osq,(grow (W0.drewN nq) osq).cell? ⟨w.heap.size,0,none⟩=some (.int .i64 20):=fun nq osq=>by rw [scell_grow W0 nq osq LW0];exact q0
 have c1:∀ nq osq,(grow (W0.drewN nq) osq).cell? ⟨w.heap.size,1,none⟩=some (.string nm):=fun nq osq=>by rw [scell_grow W0 nq osq LW0];exact q1
 have c2:∀ nq osq,(grow (W0.drewN nq) osq).cell? ⟨w.heap.size,2,none⟩=some (.int .i64 op):=fun nq osq=>by rw [scell_grow W0 nq osq LW0];exact q2
 have c3:∀ nq osq,(grow (W0.drewN nq) osq).cell? ⟨w.heap.size,3,none⟩=some (.slice pv nv cv):=fun nq osq=>by rw [scell_grow W0 nq osq LW0];exact q3
 have c4:∀ nq osq,(grow (W0.drewN nq) osq).cell? ⟨w.heap.size,4,none⟩=some (.slice pt nt ct):=fun nq osq=>by rw [scell_grow W0 nq osq LW0];exact q4
 have c5:∀ nq osq,(grow (W0.drewN nq) osq).cell? ⟨w.heap.size,5,none⟩=some (.int .i64 lo):=fun nq osq=>by rw [scell_grow W0 nq osq LW0];exact q5
 have c6:∀ nq osq,(grow (W0.drewN nq) osq).cell? ⟨w.heap.size,6,none⟩=some (.int .i64 hi):=fun nq osq=>by rw [scell_grow W0 nq osq LW0];exact q6
 have c7:∀ nq osq,(grow (W0.drewN nq) osq).cell? ⟨w.heap.size,7,none⟩=some (.bool o):=fun nq osq=>by rw [scell_grow W0 nq osq LW0];exact q7
 have c8:∀ nq osq,(grow (W0.drewN nq) osq).cell? ⟨w.heap.size,8,none⟩=some (.slice ps_ ns cs):=fun nq osq=>by rw [scell_grow W0 nq osq LW0];exact q8
 have c9:∀ nq osq,(grow (W0.drewN nq) osq).cell? ⟨w.heap.size,9,none⟩=some (.slice pr nr cr):=fun nq osq=>by rw [scell_grow W0 nq osq LW0];exact q9
 have hcL:∀ nq osq,Calls Tryz.prog 117 #[.agg #[.int .i64 20,.string nm,.int .i64 op,.slice pv nv cv,.slice pt nt ct,.int .i64 lo,.int .i64 hi,.bool o,.slice ps_ ns cs,.slice pr nr cr],.iface T0 vv0] (grow (W0.drewN nq) osq) fun e w'=>e=.returned (.bool L)∧∃ q os',w'=grow ((grow (W0.drewN nq) osq).drewN q) os':=fun nq osq=>(Calls.drawn (cL.out (grow (W0.drewN nq) osq) (KW0.trans ((sBelow_grow W0 nq osq).mono KW0.size)))).mono fun e w' ⟨he,hb,hd⟩=>⟨he,grown_of_below hb hd⟩
 have mixed:Tryz.prog.follows .mixedOrders=true:=by kernel_rfl
 clear q0 q1 q2 q3 q4 q5 q6 q7 q8 q9 q20 e0 cL
 go_quiet_grown (first | (go_at_call 117;refine Calls.grown_of (hcL _ _)))
 have hw_:Below W0.heap.size W0 (grow (W0.drewN nq) osq):=sBelow_grow W0 nq osq
 clear hcL c0 c1 c2 c3 c4 c5 c6 c7 c8 c9 c20
 generalize grow (W0.drewN nq) osq=v1 at hw_ ⊢
 have Kv1:Below w.heap.size w v1:=KW0.trans (hw_.mono KW0.size)
 clear hw_
 go_wp2
 go_ret
 exact ⟨rfl,by go_grown⟩
theorem fit_past (f:Fm) (q:FQ) (ps:List Pt) (V:Value) (w:World) (hk:f.k=21) (hq:QAt w (f,q)) (hP:PtLst w V ps) (h0:0<ps.length):
  Calls Tryz.prog 86 #[.agg #[.int .i64 f.k,.string f.nm,.int .i64 f.op,q.v,q.t,.int .i64 f.lo,.int .i64 f.hi,.bool f.opn,q.s,q.r],V] w fun e w'=>e=.returned (.bool (listP f.vars (ptN ps 0) && (!Lib.containsS (ptN ps 0).about.bare f.nm && decide ((ptN ps 0).about.reach=0))))∧Below w.heap.size w w':=by
 have CA:Hid (∀ (a:Bool) (r:Int) (pv pb:Option Addr) (nv nb cv cb:Nat) (W:World),Calls Tryz.prog 197 #[.agg #[.slice pv nv cv,.bool a,.int .i64 r,.slice pb nb cb]] W fun e w'=>e=.returned (.agg #[.slice pv nv cv,.bool a,.int .i64 r,.slice pb nb cb])∧Below W.heap.size W w'):=fun a r pv pb nv nb cv cb W=>about_fx (.bool true) (.bool true) a r pv pb nv nb cv cb W
 obtain ⟨⟨pv,cv,ev⟩,⟨pt,ct,et⟩,⟨ps_,cs,es⟩,⟨pr,cr,er⟩⟩:=sfm_forms hq
 obtain ⟨b,off,c,u0,rfl,hbl,e0,p0⟩:=hP.one h0
 have cL:Hid (∀ W:World,Below w.heap.size w W→Calls Tryz.prog 117 #[.agg #[.int .i64 f.k,.string f.nm,.int .i64 f.op,q.v,q.t,.int .i64 f.lo,.int .i64 f.hi,.bool f.opn,q.s,q.r],u0] W fun e w'=>e=.returned (.bool (listP f.vars (ptN ps 0)))∧Below W.heap.size W w'):=fun W hW=>isListed_any f q (ptN ps 0) u0 W (hq.below hW) (p0.keep hW)
 obtain ⟨T0,vv0,pv0,pb0,cv0,cb0,rfl, -,hn0,hm0⟩:=p0.abt
 have cC:Hid (∀ W:World,Below w.heap.size w W→Calls Tryz.prog 79 #[.slice pb0 (ptN ps 0).about.bare.length cb0,.string f.nm] W fun e w'=>e=.returned (.bool (Lib.containsS (ptN ps 0).about.bare f.nm))∧Below W.heap.size W w'):=fun W hW=>(acont_any _ _ f.nm W (hn0.below hW)).mono (fun e w' h=>⟨h.1,by rw [h.2];exact Below.refl _ _⟩)
 rw [ev,et,es,er,hk] at cL ⊢
 clear hq ev et es er hk hP p0 hn0
 generalize listP f.vars (ptN ps 0)=L at*
 generalize Lib.containsS (ptN ps 0).about.bare f.nm=CN at*
 generalize ps.length=np at*
 generalize (ptN ps 0).about.acc=A0 at*
 generalize (ptN ps 0).about.reach=r0 at*
 generalize (ptN ps 0).about.vars.length=n0 at*
 generalize (ptN ps 0).about.bare.length=b0 at*
 generalize f.vars.length=nv at*
 generalize f.terms.length=nt at*
 generalize f.subs.length=ns at*
 generalize f.rgx.length=nr at*
 generalize f.nm=nm at*
 generalize f.op=op at*
 generalize f.lo=lo at*
 generalize f.hi=hi at*
 generalize f.opn=o at*
 have hnp:(0:Int)<(np:Int):=by omega
 go_enter Tryz.func86,Tryz.ntmps86
 go_wp2_with fail
 refine (CA.out _ _ _ _ _ _ _ _ _).mono ?_
 rintro e w1 ⟨rfl,hb1⟩
 have K1:Below w.heap.size w w1:=Below.trans (by go_grown) (hb1.mono (by simp))
 have gb:∀ o,w1.cell? ⟨w.heap.size,o,none⟩=_:=fun o=>hb1.cell (p:=⟨w.heap.size,o,none⟩) (by simp)
 have hl1:w.heap.size<w1.heap.size:=Nat.lt_of_lt_of_le (by simp) hb1.size
 clear hb1 CA
 go_upto_region 25 with fail
 refine wp_world ?_
 intro W0 hW0
 have KW0:Below w.heap.size w W0:=by rw [hW0];go_grown
 have LW0:w.heap.size<W0.heap.size:=by rw [hW0];simp;omega
 have LW1:w1.heap.size<W0.heap.size:=by rw [hW0];simp
 have k01:Below w1.heap.size w1 W0:=by rw [hW0];go_grown
 have q0:W0.cell? ⟨w.heap.size,0,none⟩=some (.int .i64 21):=(k01.cell (p:=⟨w.heap.size,0,none⟩) hl1).trans ((gb 0).trans (by simp (maxDischargeDepth:=12) [go_sem]))
 have q1:W0.cell? ⟨w.heap.size,1,none⟩=some (.string nm):=(k01.cell (p:=⟨w.heap.size,1,none⟩) hl1).trans ((gb 1).trans (by simp (maxDischargeDepth:=12) [go_sem]))
 have q2:W0.cell? ⟨w.heap.size,2,none⟩=some (.int .i64 op):=(k01.cell (p:=⟨w.heap.size,2,none⟩) hl1).trans ((gb 2).trans (by simp (maxDischargeDepth:=12) [go_sem]))
 have q3:W0.cell? ⟨w.heap.size,3,none⟩=some (.slice pv nv cv):=(k01.cell (p:=⟨w.heap.size,3,none⟩) hl1).trans ((gb 3).trans (by simp (maxDischargeDepth:=12) [go_sem]))
 have q4:W0.cell? ⟨w.heap.size,4,none⟩=some (.slice pt nt ct):=(k01.cell (p:=⟨w.heap.size,4,none⟩) hl1).trans ((gb 4).trans (by simp (maxDischargeDepth:=12) [go_sem]))
 have q5:W0.cell? ⟨w.heap.size,5,none⟩=some (.int .i64 lo):=(k01.cell (p:=⟨w.heap.size,5,none⟩) hl1).trans ((gb 5).trans (by simp (maxDischargeDepth:=12) [go_sem]))
 have q6:W0.cell? ⟨w.heap.size,6,none⟩=some (.int .i64 hi):=(k01.cell (p:=⟨w.heap.size,6,none⟩) hl1).trans ((gb 6).trans (by simp (maxDischargeDepth:=12) [go_sem]))
 have q7:W0.cell? ⟨w.heap.size,7,none⟩=some (.bool o):=(k01.cell (p:=⟨w.heap.size,7,none⟩) hl1).trans ((gb 7).trans (by simp (maxDischargeDepth:=12) [go_sem]))
 have q8:W0.cell? ⟨w.heap.size,8,none⟩=some (.slice ps_ ns cs):=(k01.cell (p:=⟨w.heap.size,8,none⟩) hl1).trans ((gb 8).trans (by simp (maxDischargeDepth:=12) [go_sem]))
 have q9:W0.cell? ⟨w.heap.size,9,none⟩=some (.slice pr nr cr):=(k01.cell (p:=⟨w.heap.size,9,none⟩) hl1).trans ((gb 9).trans (by simp (maxDischargeDepth:=12) [go_sem]))
 have q20:W0.cell? ⟨b,off,none⟩=some (.iface T0 vv0):=(KW0.cell (p:=⟨b,off,none⟩) hbl).trans e0
 have q22:W0.cell? ⟨w1.heap.size,2,none⟩=some (.int .i64 r0):=by rw [hW0];simp (maxDischargeDepth:=12) [go_sem]
 have q23:W0.cell? ⟨w1.heap.size,3,none⟩=some (.slice pb0 b0 cb0):=by rw [hW0];simp (maxDischargeDepth:=12) [go_sem]
 have hbW:b<W0.heap.size:=Nat.lt_of_lt_of_le hbl KW0.size
 clear hW0 gb k01
 have c20:∀ nq osq,(grow (W0.drewN nq) osq).cell? ⟨b,off,none⟩=some (.iface T0 vv0):=fun nq osq=>by rw [scell_grow W0 nq osq hbW];exact q20
 have c22:∀ nq osq,(grow (W0.drewN nq) osq).cell? ⟨w1.heap.size,2,none⟩=some (.int .i64 r0):=fun nq osq=>by rw [scell_grow W0 nq osq LW1];exact q22
 have c23:∀ nq osq,(grow (W0.drewN nq) osq).cell? ⟨w1.heap.size,3,none⟩=some (.slice pb0 b0 cb0):=fun nq osq=>by rw [scell_grow W0 nq osq LW1];exact q23
 have c0:∀ nq osq,(grow (W0.drewN nq) osq).cell? ⟨w.heap.size,0,none⟩=some (.int .i64 21):=fun nq osq=>by rw [scell_grow W0 nq osq LW0];exact q0
 have c1:∀ nq osq,(grow (W0.drewN nq) osq).cell? ⟨w.heap.size,1,none⟩=some (.string nm):=fun nq osq=>by rw [scell_grow W0 nq osq LW0];exact q1
 have c2:∀ nq osq,(grow (W0.drewN nq) osq).cell? ⟨w.heap.size,2,none⟩=some (.int .i64 op):=fun nq osq=>by rw [scell_grow W0 nq osq LW0];exact q2
 have c3:∀ nq osq,(grow (W0.drewN nq) osq).cell? ⟨w.heap.size,3,none⟩=some (.slice pv nv cv):=fun nq osq=>by rw [scell_grow W0 nq osq LW0];exact q3
 have c4:∀ nq osq,(grow (W0.drewN nq) osq).cell? ⟨w.heap.size,4,none⟩=some (.slice pt nt ct):=fun nq osq=>by rw [scell_grow W0 nq osq LW0];exact q4
 have c5:∀ nq osq,(grow (W0.drewN nq) osq).cell? ⟨w.heap.size,5,none⟩=some (.int .i64 lo):=fun nq osq=>by rw [scell_grow W0 nq osq LW0];exact q5
 have c6:∀ nq osq,(grow (W0.drewN nq) osq).cell? ⟨w.heap.size,6,none⟩=some (.int .i64 hi):=fun nq osq=>by rw [scell_grow W0 nq osq LW0];exact q6
 have c7:∀ nq osq,(grow (W0.drewN nq) osq).cell? ⟨w.heap.size,7,none⟩=some (.bool o):=fun nq osq=>by rw [scell_grow W0 nq osq LW0];exact q7
 have c8:∀ nq osq,(grow (W0.drewN nq) osq).cell? ⟨w.heap.size,8,none⟩=some (.slice ps_ ns cs):=fun nq osq=>by rw [scell_grow W0 nq osq LW0];exact q8
 have c9:∀ nq osq,(grow (W0.drewN nq) osq).cell? ⟨w.heap.size,9,none⟩=some (.slice pr nr cr):=fun nq osq=>by rw [scell_grow W0 nq osq LW0];exact q9
 have hcL:∀ nq osq,Calls Tryz.prog 117 #[.agg #[.int .i64 21,.string nm,.int .i64 op,.slice pv nv cv,.slice pt nt ct,.int .i64 lo,.int .i64 hi,.bool o,.slice ps_ ns cs,.slice pr nr cr],.iface T0 vv0] (grow (W0.drewN nq) osq) fun e w'=>e=.returned (.bool L)∧∃ q os',w'=grow ((grow (W0.drewN nq) osq).drewN q) os':=fun nq osq=>(Calls.drawn (cL.out (grow (W0.drewN nq) osq) (KW0.trans ((sBelow_grow W0 nq osq).mono KW0.size)))).mono fun e w' ⟨he,hb,hd⟩=>⟨he,grown_of_below hb hd⟩
 have hcC:∀ nq osq,Calls Tryz.prog 79 #[.slice pb0 b0 cb0,.string nm] (grow (W0.drewN nq) osq) fun e w'=>e=.returned (.bool CN)∧∃ q os',w'=grow ((grow (W0.drewN nq) osq).drewN q) os':=fun nq osq=>(Calls.drawn (cC.out (grow (W0.drewN nq) osq) (KW0.trans ((sBelow_grow W0 nq osq).mono KW0.size)))).mono fun e w' ⟨he,hb,hd⟩=>⟨he,grown_of_below hb hd⟩
 have mixed:Tryz.prog.follows .mixedOrders=true:=by kernel_rfl
 clear q0 q1 q2 q3 q4 q5 q6 q7 q8 q9 q20 q22 q23 e0 cL cC
 cases L with
 | false=>
  go_quiet_grown (first | (go_at_call 117;refine Calls.grown_of (hcL _ _)) | (go_at_call 79;refine Calls.grown_of (hcC _ _)))
  have hw_:Below W0.heap.size W0 (grow (W0.drewN nq) osq):=sBelow_grow W0 nq osq
  clear hcL hcC c0 c1 c2 c3 c4 c5 c6 c7 c8 c9 c20 c22 c23
  generalize grow (W0.drewN nq) osq=v1 at hw_ ⊢
  have Kv1:Below w.heap.size w v1:=KW0.trans (hw_.mono KW0.size)
  clear hw_
  go_wp2
  go_ret
  exact ⟨by simp,by go_grown⟩
 | true=>
  cases CN with
  | true=>
   go_quiet_grown (first | (go_at_call 117;refine Calls.grown_of (hcL _ _)) | (go_at_call 79;refine Calls.grown_of (hcC _ _)))
   have hw_:Below W0.heap.size W0 (grow (W0.drewN nq) osq):=sBelow_grow W0 nq osq
   clear hcL hcC c0 c1 c2 c3 c4 c5 c6 c7 c8 c9 c20 c22 c23
   generalize grow (W0.drewN nq) osq=v1 at hw_ ⊢
   have Kv1:Below w.heap.size w v1:=KW0.trans (hw_.mono KW0.size)
   clear hw_
   go_wp2
   go_ret
   exact ⟨by simp,by go_grown⟩
  | false=>
   by_cases hr:r0=0
   ·subst hr
    go_quiet_grown (first | (go_at_call 117;refine Calls.grown_of (hcL _ _)) | (go_at_call 79;refine Calls.grown_of (hcC _ _)))
    have hw_:Below W0.heap.size W0 (grow (W0.drewN nq) osq):=sBelow_grow W0 nq osq
    clear hcL hcC c0 c1 c2 c3 c4 c5 c6 c7 c8 c9 c20 c22 c23
    generalize grow (W0.drewN nq) osq=v1 at hw_ ⊢
    have Kv1:Below w.heap.size w v1:=KW0.trans (hw_.mono KW0.size)
    clear hw_
    go_wp2
    go_ret
    exact ⟨by simp,by go_grown⟩
   ·have hr1:(r0==0)=false:=by simpa using hr
    go_quiet_grown (first | (go_at_call 117;refine Calls.grown_of (hcL _ _)) | (go_at_call 79;refine Calls.grown_of (hcC _ _)))
    have hw_:Below W0.heap.size W0 (grow (W0.drewN nq) osq):=sBelow_grow W0 nq osq
    clear hcL hcC c0 c1 c2 c3 c4 c5 c6 c7 c8 c9 c20 c22 c23
    generalize grow (W0.drewN nq) osq=v1 at hw_ ⊢
    have Kv1:Below w.heap.size w v1:=KW0.trans (hw_.mono KW0.size)
    clear hw_
    go_wp2
    go_ret
    exact ⟨by simp [hr],by go_grown⟩
end Go.Proofs.YthodedagbbifbaaGreat
