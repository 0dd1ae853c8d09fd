/- What the claims of this seat share: mid. -/
import Derived.Test.YthodedagbbifbaaGreatZ08
set_option maxRecDepth 100000
set_option maxHeartbeats 8000000
namespace Go.Proofs.YthodedagbbifbaaGreat
open Go.RowKit LX Go.Shelf
set_option linter.unusedVariables false
theorem rfree_fm (f:Fm) (y:FQ) (w:World) (hQ:QAt w (f,y)):
  Calls Tryz.prog 19 #[.agg #[.int .i64 f.k,.string f.nm,.int .i64 f.op,y.v,y.t,.int .i64 f.lo,.int .i64 f.hi,.bool f.opn,y.s,y.r]] w fun e w'=>∃ v,e=.returned v∧OwnN w.heap.size v (varF f) w'∧Below w.heap.size w w':=by
 have HQ:Hid (QAt w (f,y)):=hQ
 have cC:Hid (∀ W:World,Below w.heap.size w W→Calls Tryz.prog 18 #[.agg #[.int .i64 f.k,.string f.nm,.int .i64 f.op,y.v,y.t,.int .i64 f.lo,.int .i64 f.hi,.bool f.opn,y.s,y.r]] W fun e w'=>e=.returned (.int .i64 (chkF f))∧Below W.heap.size W w'):=fun W hW=>rcheck_fm f y W (HQ.out.below hW)
 have cV:Hid (chkF f=0→∀ W:World,Below w.heap.size w W→Calls Tryz.prog 39 #[.agg #[.int .i64 f.k,.string f.nm,.int .i64 f.op,y.v,y.t,.int .i64 f.lo,.int .i64 f.hi,.bool f.opn,y.s,y.r]] W fun e w'=>∃ v,e=.returned v∧OwnN W.heap.size v (varF f) w'∧Below W.heap.size W w'):=fun h W hW=>by
  have e:varF f=(fre f).1:=if_pos h
  rw [e]
  exact rvars_any w _ f y W (Nat.lt_succ_self _) (chk_good h).2 (chk_good h).1 HQ.out hW
 have HZ:Hid (¬ chkF f=0→varF f=[]):=fun h=>if_neg h
 obtain ⟨CK,eCK⟩:∃ C:Int,Hid (chkF f=C):=⟨_,rfl⟩
 rw [eCK.out] at HZ cV cC
 obtain ⟨VF,eVF⟩:∃ F:List ByteArray,Hid (varF f=F):=⟨_,rfl⟩
 rw [eVF.out] at HZ cV ⊢
 clear eCK eVF
 obtain ⟨uv,ut,us,ur⟩:=y
 obtain ⟨h1,h2,h3,h4⟩:=hQ
 dsimp only at h1 h2 h3 h4 cV cC ⊢
 obtain ⟨-,pv,cv,rfl, -, -⟩:=h1
 obtain ⟨pt,ct,rfl, -⟩:=h2.form
 obtain ⟨ps,cs,rfl, -⟩:=h3.form
 obtain ⟨pr,cr,rfl, -⟩:=h4.form
 clear h2 h3 h4
 generalize f.vars.length=nv at*
 generalize f.terms.length=nt at*
 generalize f.subs.length=ns at*
 generalize f.rgx.length=nr at*
 generalize f.lo=lo at*
 generalize f.hi=fhi at*
 generalize f.nm=nm at*
 generalize f.opn=o at*
 generalize f.op=op at*
 generalize f.k=fk at*
 go_enter Tryz.func19,Tryz.ntmps19
 go_wp2_with fail
 refine (cC.out _ ((Below.refl _ _).alloc (Nat.le_refl _) _)).mono ?_
 rintro e w1 ⟨rfl,hb1⟩
 have X1:Hid (w1.heap[w.heap.size]? =_):=(hb1.block w.heap.size (by simp)).trans (heap_allocA w _)
 have B1:Below w.heap.size w w1:=((Below.refl _ _).alloc (Nat.le_refl _) _).trans (hb1.mono (by simp))
 clear hb1 cC
 by_cases hE:CK=0
 case neg=>
  have hE':(CK==0)=false:=by simpa using hE
  have hE'':(CK != 0)=true:=by simpa using hE
  have hR:Hid (VF=[]):=HZ.out hE
  go_wp2
  go_ret
  rw [hR.out]
  exact ⟨_,rfl,OwnN.nil _ _,B1⟩
 subst hE
 have CV:=cV.out rfl
 have CV:Hid (_):=CV
 clear HZ cV
 obtain ⟨e0,e1,e2,e3,e4,e5,e6,e7,e8,e9⟩:=box10 X1.out
 go_wp2_with fail
 refine (CV.out w1 B1).mono ?_
 rintro e w3 ⟨v3,rfl,h3,hb3⟩
 have O3:Hid (OwnN w.heap.size v3 VF w3):=own_monoB h3 B1.size
 have B3:Below w.heap.size w w3:=B1.trans (hb3.mono B1.size)
 clear h3 hb3 CV
 go_wp2
 go_ret
 exact ⟨_,rfl,O3.out,B3⟩
end Go.Proofs.YthodedagbbifbaaGreat
