/- What the claims of this seat share: base. -/
import Derived.Test.YthodedagbbifbaaGreatZ04
import Derived.Lib.SliceRun
set_option maxRecDepth 100000
set_option maxHeartbeats 16000000
namespace Go.Proofs.YthodedagbbifbaaGreat
open Go.RowKit LX Go.Shelf Go.Sort
set_option linter.unusedVariables false
def PtsN (f:Fm) (ps:List Pt):Prop:=(f.k=7∨f.k=10∨f.k=19∨f.k=20∨f.k=21→0<ps.length)∧(f.k=8∨f.k=9∨f.k=15∨f.k=16∨f.k=20∨f.k=21→1<ps.length)∧(f.k=4∨f.k=5∨f.k=6→1<f.terms.length)
theorem isFit_any (f:Fm) (q:FQ) (ps:List Pt) (V:Value) (w:World) (hq:QAt w (f,q)) (hP:PtLst w V ps) (hN:PtsN f ps) (hB:∀ t∈f.terms,TmB t):
  Calls Tryz.prog 86 #[.agg #[.int .i64 f.k,.string f.nm,.int .i64 f.op,q.v,q.t,.int .i64 f.lo,.int .i64 f.hi,.bool f.opn,q.s,q.r],V] w fun e w'=>e=.returned (.bool (fitP f ps))∧Below w.heap.size w w':=by
 unfold fitP
 by_cases h3:f.k=3
 ·rw [if_pos h3];exact fit_pred f q ps V w h3 hq hP
 rw [if_neg h3]
 by_cases h4:f.k=4
 ·rw [if_pos h4];exact fit_eq f q ps V w h4 hq hP (hN.2.2 (Or.inl h4)) hB
 rw [if_neg h4]
 by_cases h5:f.k=5∨f.k=6
 ·rw [if_pos h5];exact fit_less f q ps V w h5 hq hP (hN.2.2 (by omega)) hB
 rw [if_neg h5]
 by_cases h7:f.k=7
 ·rw [if_pos h7];exact fit_not f q ps V w h7 hq hP (hN.1 (by omega))
 rw [if_neg h7]
 by_cases h9:f.k=9
 ·rw [if_pos h9];exact fit_or f q ps V w h9 hq hP (hN.2.1 (by omega))
 rw [if_neg h9]
 by_cases h10:f.k=10∨f.k=19
 ·rw [if_pos h10];exact fit_ex f q ps V w h10 hq hP (hN.1 (by omega))
 rw [if_neg h10]
 by_cases h12:f.k=12∨f.k=14∨f.k=18
 ·rw [if_pos h12];exact fit_next f q ps V w h12 hq hP
 rw [if_neg h12]
 by_cases h20:f.k=20
 ·rw [if_pos h20];exact fit_let f q ps V w h20 hq hP (hN.1 (by omega))
 rw [if_neg h20]
 by_cases h21:f.k=21
 ·rw [if_pos h21];exact fit_past f q ps V w h21 hq hP (hN.1 (by omega))
 rw [if_neg h21]
 exact fit_other f q ps V w (by omega) hq hP
end Go.Proofs.YthodedagbbifbaaGreat
namespace Go.Proofs.YthodedagbbifbaaGreat
open Go.RowKit LX Go.Shelf
set_option linter.unusedVariables false
theorem caseOf_neg (P:Pt) (x:Fx) (o:Pt) (u v:Value) (w:World) (hu:PtV w u P) (hv:PtV w v (Pt.neg x o)) (hO:PtB (Pt.neg x o)):
  Calls Tryz.prog 26 #[u,v] w fun e w'=>e=.returned (.int .i64 (caseP P (Pt.neg x o)))∧Below w.heap.size w w':=by
 have CA:Hid (∀ (a:Bool) (r:Int) (pv pb:Option Addr) (nv nb cv cb:Nat) (W:World),Calls Tryz.prog 197 #[.agg #[.slice pv nv cv,.bool a,.int .i64 r,.slice pb nb cb]] W fun e w'=>e=.returned (.agg #[.slice pv nv cv,.bool a,.int .i64 r,.slice pb nb cb])∧Below W.heap.size W w'):=fun a r pv pb nv nb cv cb W=>about_fx (.bool true) (.bool true) a r pv pb nv nb cv cb W
 obtain ⟨T1,vv1,pv1,pb1,cv1,cb1,rfl,hv1, -,hm1⟩:=hu.abt
 cases hv with
 | @neg x o uv ub ov hv hb ho=>
  obtain ⟨pv2,cv2,rfl, -⟩:=hv.form
  obtain ⟨pb2,cb2,rfl, -⟩:=hb.form
  have HV1:Hid (NmsAt w (.slice pv1 P.about.vars.length cv1) P.about.vars):=hv1
  have cA1:Hid (∀ W:World,Below w.heap.size w W→Calls Tryz.prog 47 #[.slice pv2 x.vars.length cv2,.slice pv1 P.about.vars.length cv1] W fun e w'=>e=.returned (.bool (amg x.vars P.about.vars))∧Below W.heap.size W w'):=fun W hW=>amg_any _ _ _ _ W (hv.below hW) (hv1.below hW)
  obtain ⟨C,eC⟩:∃ C:Bool,Hid (amg x.vars P.about.vars=C):=⟨_,rfl⟩
  obtain ⟨SV,eSV⟩:∃ SV:List ByteArray,Hid (P.about.vars=SV):=⟨_,rfl⟩
  obtain ⟨R,eR⟩:∃ R:Int,Hid (caseP P (Pt.neg x o)=R):=⟨_,rfl⟩
  rw [eR.out]
  have HR:Hid ((if P.about.acc=false then 0 else if x.acc then 1 else if C && o.about.acc then 2 else if isCmp o && C then 3 else 0)=R):=by
   have h:(if P.about.acc=false then 0 else if x.acc then 1 else if amg x.vars P.about.vars && o.about.acc then 2 else if isCmp o && amg x.vars P.about.vars then 3 else 0)=R:=eR.out
   have hc:amg x.vars P.about.vars=C:=eC.out
   show _=R
   rw [hc] at h;exact h
  rw [eC.out] at cA1
  obtain ⟨T3,vv3,pv3,pb3,cv3,cb3,rfl, -, -,hm3⟩:=ho.abt
  have HO:Hid (PtV w (.iface T3 vv3) o):=ho
  have HM3:Hid (∀ W:World,Sem.run Tryz.prog (method 333 T3 vv3 "custos/static.about") W=.ok (197,.agg #[.slice pv3 o.about.vars.length cv3,.bool o.about.acc,.int .i64 o.about.reach,.slice pb3 o.about.bare.length cb3]) W):=hm3
  clear hm3 ho
  rw [eSV.out] at cA1 hm1
  have hB0:Below w.heap.size w w:=Below.refl _ _
  have hz0:w.heap.size≤w.heap.size:=Nat.le_refl _
  have hfd:=fld_acc
  have hfd2:=fld_vars
  clear hu hv1 eC eR HV1 hv hb
  generalize P.about.acc=A1 at*
  generalize P.about.reach=r1 at*
  generalize SV.length=n1 at*
  generalize P.about.bare.length=b1 at*
  generalize x.acc=A2 at*
  generalize x.reach=r2 at*
  generalize x.vars.length=n2 at*
  generalize x.bare.length=b2 at*
  have hta:=ta_neg_neg
  have htc:=ta_neg_cmp
  go_enter Tryz.func26,Tryz.ntmps26
  go_wp2_with fail
  refine (CA.out _ _ _ _ _ _ _ _ _).mono ?_
  rintro e w1 ⟨rfl,hb1⟩
  have hB1:Below w.heap.size w w1:=Below.trans (by go_grown) (hb1.mono (by first | omega | (simp;omega)))
  have hz1:=hB1.size
  clear hb1
  go_wp2_with fail
  refine (CA.out _ _ _ _ _ _ _ _ _).mono ?_
  rintro e w2 ⟨rfl,hb2⟩
  have hB2:Below w.heap.size w w2:=Below.trans (by go_grown) (hb2.mono (by first | omega | (simp;omega)))
  have hz2:=hB2.size
  clear hb2
  go_wp2_with fail
  refine (cA1.out _ hB2).mono ?_
  rintro e w3 ⟨rfl,hb3⟩
  have hB3:Below w.heap.size w w3:=Below.trans (by go_grown) (hb3.mono (by first | omega | (simp;omega)))
  have hz3:=hB3.size
  clear hb3
  go_wp2_with fail
  refine (CA.out _ _ _ _ _ _ _ _ _).mono ?_
  rintro e w4 ⟨rfl,hb4⟩
  have hB4:Below w.heap.size w w4:=Below.trans (by go_grown) (hb4.mono (by first | omega | (simp;omega)))
  have hz4:=hB4.size
  clear hb4
  cases A1 with
  | false=>
   have hr:Hid (R=0):=(HR.out.symm)
   clear HR CA cA1 HO HM3 hta htc
   go_wp2
   go_ret
   exact ⟨by rw [hr.out];first | rfl | trivial,by go_grown⟩
  | true=>
   go_wp2_with fail
   refine (CA.out _ _ _ _ _ _ _ _ _).mono ?_
   rintro e w5 ⟨rfl,hb5⟩
   have hB5:Below w.heap.size w w5:=Below.trans (by go_grown) (hb5.mono (by first | omega | (simp;omega)))
   have hz5:=hB5.size
   clear hb5
   cases A2 with
   | true=>
    have hr:Hid (R=1):=(HR.out.symm)
    clear HR CA cA1 HO HM3 hta htc
    go_wp2
    go_ret
    exact ⟨by rw [hr.out];first | rfl | trivial,by go_grown⟩
   | false=>
    have HR3:Hid ((if C && o.about.acc then 2 else if isCmp o && C then 3 else 0)=R):=HR.out
    clear HR cA1 hm1
    have H3:=HM3.out
    obtain ⟨A3,eA3⟩:∃ A3:Bool,Hid (o.about.acc=A3):=⟨_,rfl⟩
    rw [eA3.out] at H3 HR3
    generalize o.about.reach=r3 at*
    generalize o.about.vars.length=n3 at*
    generalize o.about.bare.length=b3 at*
    clear HM3 eA3
    go_upto_region 7 with fail
    go_cut [26] (fun s26 wx=>w5=wx∧s26=.iface 83 (.agg #[.slice pv2 n2 cv2,.bool false,.int .i64 r2,.slice pb2 b2 cb2,.iface T3 vv3]))
    case first=>
     go_wp2_with fail
     go_meet
     exact ⟨rfl,rfl⟩
    case rest=>
    obtain ⟨rfl,rfl⟩:=hcut
    go_upto_region 9 with fail
    go_cut [7] (fun s7 wx=>∃ B,s7=.pointer (some ⟨B,0,none⟩)∧B<wx.heap.size∧wx.cell? ⟨B,4,none⟩=some (.iface T3 vv3)∧Below w.heap.size w wx)
    case first=>
     clear CA H3
     go_wp2_with fail
     go_meet
     exact ⟨_,rfl,by simp,by simp (maxDischargeDepth:=12) [go_sem],by go_grown⟩
    case rest=>
    obtain ⟨B,rfl,hlt,g4,hBc⟩:=hcut
    have hzc:=hBc.size
    clear hta htc hB0 hB1 hB2 hB3 hB4 hB5 hz0 hz1 hz2 hz3 hz4 hz5
    cases C with
    | true=>
     go_wp2_with fail
     refine (CA.out _ _ _ _ _ _ _ _ _).mono ?_
     rintro e w6 ⟨rfl,hb6⟩
     have hB6:Below w.heap.size w w6:=hBc.trans (hb6.mono hzc)
     have g6:=(hb6.cell (p:=⟨B,4,none⟩) hlt).trans g4
     have hz6:=hB6.size
     clear hb6 g4
     cases A3 with
     | true=>
      have hr:Hid (R=2):=(HR3.out.symm)
      clear HR3 CA HO
      go_wp2
      go_ret
      exact ⟨by rw [hr.out];first | rfl | trivial,by go_grown⟩
     | false=>
      have HR4:Hid ((if isCmp o then 3 else 0)=R):=by have h:=HR3.out;simp only [Bool.and_true,Bool.and_false] at h;exact h
      clear HR3 CA H3 hBc hzc
      have ho:=HO.out
      clear HO
      generalize hE:Value.iface T3 vv3=ov at ho
      cases ho with
      | @fx x3 uv3 ub3 hv3 hb3=>
       injection hE with e1 e2
       subst e1 e2
       obtain ⟨qv,kv,rfl, -⟩:=hv3.form
       obtain ⟨qb,kb,rfl, -⟩:=hb3.form
       have htx:=ta_fx_cmp
       have hr:Hid (R=0):=HR4.out.symm
       clear HR4 hv3 hb3
       go_wp2_with (first | (refine wpList_alloc_z rfl 85 rfl z85 al85 ?_) | (refine wpList_store_new rfl 85 (.tmp 8) (.tmp 41) rfl z85 (z85) rfl rfl (by kernel_rfl) rfl (by kernel_rfl) ?_))
       go_ret
       exact ⟨by rw [hr.out];first | rfl | trivial,by go_grown⟩
      | @neg x3 o3 uv3 ub3 ov3 hv3 hb3 ho3=>
       injection hE with e1 e2
       subst e1 e2
       obtain ⟨qv,kv,rfl, -⟩:=hv3.form
       obtain ⟨qb,kb,rfl, -⟩:=hb3.form
       obtain ⟨T4,vv4,rfl⟩:=ho3.lens
       have htx:=ta_neg_cmp
       have hr:Hid (R=0):=HR4.out.symm
       clear HR4 hv3 hb3 ho3
       go_wp2_with (first | (refine wpList_alloc_z rfl 85 rfl z85 al85 ?_) | (refine wpList_store_new rfl 85 (.tmp 8) (.tmp 41) rfl z85 (z85) rfl rfl (by kernel_rfl) rfl (by kernel_rfl) ?_))
       go_ret
       exact ⟨by rw [hr.out];first | rfl | trivial,by go_grown⟩
      | @cmp x3 k3 ta tb uv3 ub3 ua uc hv3 hb3 h4 h5 h6 h7=>
       injection hE with e1 e2
       subst e1 e2
       obtain ⟨qv,kv,rfl, -⟩:=hv3.form
       obtain ⟨qb,kb,rfl, -⟩:=hb3.form
       obtain ⟨qa,ka,rfl, -⟩:=h4.form
       obtain ⟨qc,kc,rfl, -⟩:=h5.form
       have htx:=ta_cmp_cmp
       have hr:Hid (R=3):=HR4.out.symm
       clear HR4 hv3 hb3 h4 h5 h6 h7
       go_wp2_with (first | (refine wpList_alloc_z rfl 85 rfl z85 al85 ?_) | (refine wpList_store_new rfl 85 (.tmp 8) (.tmp 41) rfl z85 (#[.slice qv x3.vars.length kv,.bool x3.acc,.int .i64 x3.reach,.slice qb x3.bare.length kb,.int .i64 k3,.int .i64 ta.k,.string ta.nm,.int .i64 ta.v.k,.int .i64 ta.v.n,.int .i64 ta.v.d,.string ta.v.s,.slice qa ta.subs.length ka,.int .i64 tb.k,.string tb.nm,.int .i64 tb.v.k,.int .i64 tb.v.n,.int .i64 tb.v.d,.string tb.v.s,.slice qc tb.subs.length kc]) rfl rfl (by kernel_rfl) rfl (by kernel_rfl) ?_))
       go_ret
       exact ⟨by rw [hr.out];first | rfl | trivial,by go_grown⟩
    | false=>
     have HR4:Hid (R=0):=by have h:=HR3.out;simp only [Bool.and_false,Bool.false_and] at h;exact h.symm
     clear HR3 CA H3
     have ho:=HO.out
     clear HO
     generalize hE:Value.iface T3 vv3=ov at ho
     cases ho with
     | @fx x3 uv3 ub3 hv3 hb3=>
      injection hE with e1 e2
      subst e1 e2
      obtain ⟨qv,kv,rfl, -⟩:=hv3.form
      obtain ⟨qb,kb,rfl, -⟩:=hb3.form
      have htx:=ta_fx_cmp
      have hr:Hid (R=0):=HR4.out
      clear HR4 hv3 hb3
      go_wp2_with (first | (refine wpList_alloc_z rfl 85 rfl z85 al85 ?_) | (refine wpList_store_new rfl 85 (.tmp 8) (.tmp 41) rfl z85 (z85) rfl rfl (by kernel_rfl) rfl (by kernel_rfl) ?_))
      go_ret
      exact ⟨by rw [hr.out];first | rfl | trivial,by go_grown⟩
     | @neg x3 o3 uv3 ub3 ov3 hv3 hb3 ho3=>
      injection hE with e1 e2
      subst e1 e2
      obtain ⟨qv,kv,rfl, -⟩:=hv3.form
      obtain ⟨qb,kb,rfl, -⟩:=hb3.form
      obtain ⟨T4,vv4,rfl⟩:=ho3.lens
      have htx:=ta_neg_cmp
      have hr:Hid (R=0):=HR4.out
      clear HR4 hv3 hb3 ho3
      go_wp2_with (first | (refine wpList_alloc_z rfl 85 rfl z85 al85 ?_) | (refine wpList_store_new rfl 85 (.tmp 8) (.tmp 41) rfl z85 (z85) rfl rfl (by kernel_rfl) rfl (by kernel_rfl) ?_))
      go_ret
      exact ⟨by rw [hr.out];first | rfl | trivial,by go_grown⟩
     | @cmp x3 k3 ta tb uv3 ub3 ua uc hv3 hb3 h4 h5 h6 h7=>
      injection hE with e1 e2
      subst e1 e2
      obtain ⟨qv,kv,rfl, -⟩:=hv3.form
      obtain ⟨qb,kb,rfl, -⟩:=hb3.form
      obtain ⟨qa,ka,rfl, -⟩:=h4.form
      obtain ⟨qc,kc,rfl, -⟩:=h5.form
      have htx:=ta_cmp_cmp
      have hr:Hid (R=0):=HR4.out
      clear HR4 hv3 hb3 h4 h5 h6 h7
      go_wp2_with (first | (refine wpList_alloc_z rfl 85 rfl z85 al85 ?_) | (refine wpList_store_new rfl 85 (.tmp 8) (.tmp 41) rfl z85 (#[.slice qv x3.vars.length kv,.bool x3.acc,.int .i64 x3.reach,.slice qb x3.bare.length kb,.int .i64 k3,.int .i64 ta.k,.string ta.nm,.int .i64 ta.v.k,.int .i64 ta.v.n,.int .i64 ta.v.d,.string ta.v.s,.slice qa ta.subs.length ka,.int .i64 tb.k,.string tb.nm,.int .i64 tb.v.k,.int .i64 tb.v.n,.int .i64 tb.v.d,.string tb.v.s,.slice qc tb.subs.length kc]) rfl rfl (by kernel_rfl) rfl (by kernel_rfl) ?_))
      go_ret
      exact ⟨by rw [hr.out];first | rfl | trivial,by go_grown⟩
theorem caseOf_cmp (P:Pt) (x:Fx) (k:Int) (a b:Tm) (u v:Value) (w:World) (hu:PtV w u P) (hv:PtV w v (Pt.cmp x k a b)) (hO:PtB (Pt.cmp x k a b)):
  Calls Tryz.prog 26 #[u,v] w fun e w'=>e=.returned (.int .i64 (caseP P (Pt.cmp x k a b)))∧Below w.heap.size w w':=by
 have CA:Hid (∀ (a:Bool) (r:Int) (pv pb:Option Addr) (nv nb cv cb:Nat) (W:World),Calls Tryz.prog 197 #[.agg #[.slice pv nv cv,.bool a,.int .i64 r,.slice pb nb cb]] W fun e w'=>e=.returned (.agg #[.slice pv nv cv,.bool a,.int .i64 r,.slice pb nb cb])∧Below W.heap.size W w'):=fun a r pv pb nv nb cv cb W=>about_fx (.bool true) (.bool true) a r pv pb nv nb cv cb W
 obtain ⟨T1,vv1,pv1,pb1,cv1,cb1,rfl,hv1, -,hm1⟩:=hu.abt
 cases hv with
 | @cmp x k a b uv ub ua uc hv hb h3 h4 h5 h6=>
  obtain ⟨pv2,cv2,rfl, -⟩:=hv.form
  obtain ⟨pb2,cb2,rfl, -⟩:=hb.form
  have HV1:Hid (NmsAt w (.slice pv1 P.about.vars.length cv1) P.about.vars):=hv1
  have cA1:Hid (∀ W:World,Below w.heap.size w W→Calls Tryz.prog 47 #[.slice pv2 x.vars.length cv2,.slice pv1 P.about.vars.length cv1] W fun e w'=>e=.returned (.bool (amg x.vars P.about.vars))∧Below W.heap.size W w'):=fun W hW=>amg_any _ _ _ _ W (hv.below hW) (hv1.below hW)
  obtain ⟨C,eC⟩:∃ C:Bool,Hid (amg x.vars P.about.vars=C):=⟨_,rfl⟩
  obtain ⟨SV,eSV⟩:∃ SV:List ByteArray,Hid (P.about.vars=SV):=⟨_,rfl⟩
  obtain ⟨R,eR⟩:∃ R:Int,Hid (caseP P (Pt.cmp x k a b)=R):=⟨_,rfl⟩
  rw [eR.out]
  have HR:Hid ((if P.about.acc=false then 0 else if x.acc then 1 else if C then 3 else if decide (k=4) && (setT SV a b || setT SV b a) then 4 else 0)=R):=by
   have h:(if P.about.acc=false then 0 else if x.acc then 1 else if amg x.vars P.about.vars then 3 else if decide (k=4) && (setT P.about.vars a b || setT P.about.vars b a) then 4 else 0)=R:=eR.out
   have hc:amg x.vars P.about.vars=C:=eC.out
   show _=R
   rw [hc,eSV.out] at h;exact h
  rw [eC.out] at cA1
  have cS1:Hid (∀ W:World,Below w.heap.size w W→Calls Tryz.prog 48 #[.slice pv1 P.about.vars.length cv1,.agg #[.int .i64 a.k,.string a.nm,.int .i64 a.v.k,.int .i64 a.v.n,.int .i64 a.v.d,.string a.v.s,ua],.agg #[.int .i64 b.k,.string b.nm,.int .i64 b.v.k,.int .i64 b.v.n,.int .i64 b.v.d,.string b.v.s,uc]] W fun e w'=>e=.returned (.bool (setT P.about.vars a b))∧Below W.heap.size W w'):=fun W hW=>isSet_any _ a b _ ua uc W (HV1.out.below hW) (h3.bel hW) (h4.bel hW) h6 hO.2.1 hO.2.2
  have cS2:Hid (∀ W:World,Below w.heap.size w W→Calls Tryz.prog 48 #[.slice pv1 P.about.vars.length cv1,.agg #[.int .i64 b.k,.string b.nm,.int .i64 b.v.k,.int .i64 b.v.n,.int .i64 b.v.d,.string b.v.s,uc],.agg #[.int .i64 a.k,.string a.nm,.int .i64 a.v.k,.int .i64 a.v.n,.int .i64 a.v.d,.string a.v.s,ua]] W fun e w'=>e=.returned (.bool (setT P.about.vars b a))∧Below W.heap.size W w'):=fun W hW=>isSet_any _ b a _ uc ua W (HV1.out.below hW) (h4.bel hW) (h3.bel hW) h5 hO.1.1 hO.1.2
  obtain ⟨qa,ka,rfl, -⟩:=h3.form
  obtain ⟨qc,kc,rfl, -⟩:=h4.form
  rw [eSV.out] at cS1 cS2
  generalize setT SV a b=S1 at*
  generalize setT SV b a=S2 at*
  clear h3 h4 h5 h6 hO
  rw [eSV.out] at cA1 hm1
  have hB0:Below w.heap.size w w:=Below.refl _ _
  have hz0:w.heap.size≤w.heap.size:=Nat.le_refl _
  have hfd:=fld_acc
  have hfd2:=fld_vars
  clear hu hv1 eC eR HV1 hv hb
  generalize P.about.acc=A1 at*
  generalize P.about.reach=r1 at*
  generalize SV.length=n1 at*
  generalize P.about.bare.length=b1 at*
  generalize x.acc=A2 at*
  generalize x.reach=r2 at*
  generalize x.vars.length=n2 at*
  generalize x.bare.length=b2 at*
  have hta:=ta_cmp_neg
  have htc:=ta_cmp_cmp
  generalize a.subs.length=na at*
  generalize b.subs.length=nc at*
  generalize a.k=ak at*
  generalize a.nm=anm at*
  generalize a.v.k=avk at*
  generalize a.v.n=avn at*
  generalize a.v.d=avd at*
  generalize a.v.s=avs at*
  generalize b.k=bk at*
  generalize b.nm=bnm at*
  generalize b.v.k=bvk at*
  generalize b.v.n=bvn at*
  generalize b.v.d=bvd at*
  generalize b.v.s=bvs at*
  go_enter Tryz.func26,Tryz.ntmps26
  go_wp2_with fail
  refine (CA.out _ _ _ _ _ _ _ _ _).mono ?_
  rintro e w1 ⟨rfl,hb1⟩
  have hB1:Below w.heap.size w w1:=Below.trans (by go_grown) (hb1.mono (by first | omega | (simp;omega)))
  have hz1:=hB1.size
  clear hb1
  go_wp2_with fail
  refine (CA.out _ _ _ _ _ _ _ _ _).mono ?_
  rintro e w2 ⟨rfl,hb2⟩
  have hB2:Below w.heap.size w w2:=Below.trans (by go_grown) (hb2.mono (by first | omega | (simp;omega)))
  have hz2:=hB2.size
  clear hb2
  go_wp2_with fail
  refine (cA1.out _ hB2).mono ?_
  rintro e w3 ⟨rfl,hb3⟩
  have hB3:Below w.heap.size w w3:=Below.trans (by go_grown) (hb3.mono (by first | omega | (simp;omega)))
  have hz3:=hB3.size
  clear hb3
  go_wp2_with fail
  refine (CA.out _ _ _ _ _ _ _ _ _).mono ?_
  rintro e w4 ⟨rfl,hb4⟩
  have hB4:Below w.heap.size w w4:=Below.trans (by go_grown) (hb4.mono (by first | omega | (simp;omega)))
  have hz4:=hB4.size
  clear hb4
  cases A1 with
  | false=>
   have hr:Hid (R=0):=(HR.out.symm)
   clear HR CA cA1 cS1 cS2 hta htc
   go_wp2
   go_ret
   exact ⟨by rw [hr.out];first | rfl | trivial,by go_grown⟩
  | true=>
   go_wp2_with fail
   refine (CA.out _ _ _ _ _ _ _ _ _).mono ?_
   rintro e w5 ⟨rfl,hb5⟩
   have hB5:Below w.heap.size w w5:=Below.trans (by go_grown) (hb5.mono (by first | omega | (simp;omega)))
   have hz5:=hB5.size
   clear hb5
   cases A2 with
   | true=>
    have hr:Hid (R=1):=(HR.out.symm)
    clear HR CA cA1 cS1 cS2 hta htc
    go_wp2
    go_ret
    exact ⟨by rw [hr.out];first | rfl | trivial,by go_grown⟩
   | false=>
    clear CA cA1 hm1
    go_upto_region 7 with fail
    go_cut [26] (fun s26 wx=>w5=wx∧s26=.iface 85 (.agg #[.slice pv2 n2 cv2,.bool false,.int .i64 r2,.slice pb2 b2 cb2,.int .i64 k,.int .i64 ak,.string anm,.int .i64 avk,.int .i64 avn,.int .i64 avd,.string avs,.slice qa na ka,.int .i64 bk,.string bnm,.int .i64 bvk,.int .i64 bvn,.int .i64 bvd,.string bvs,.slice qc nc kc]))
    case first=>
     go_wp2_with fail
     go_meet
     exact ⟨rfl,rfl⟩
    case rest=>
    obtain ⟨rfl,rfl⟩:=hcut
    go_upto_region 16 with fail
    go_cut [10] (fun s10 wx=>∃ B,s10=.pointer (some ⟨B,0,none⟩)∧B<wx.heap.size∧(wx.cell? ⟨B,4,none⟩=some (.int .i64 k)∧wx.cell? ⟨B,5,none⟩=some (.int .i64 ak)∧wx.cell? ⟨B,6,none⟩=some (.string anm)∧wx.cell? ⟨B,7,none⟩=some (.int .i64 avk)∧wx.cell? ⟨B,8,none⟩=some (.int .i64 avn)∧wx.cell? ⟨B,9,none⟩=some (.int .i64 avd)∧wx.cell? ⟨B,10,none⟩=some (.string avs)∧wx.cell? ⟨B,11,none⟩=some (.slice qa na ka)∧wx.cell? ⟨B,12,none⟩=some (.int .i64 bk)∧wx.cell? ⟨B,13,none⟩=some (.string bnm)∧wx.cell? ⟨B,14,none⟩=some (.int .i64 bvk)∧wx.cell? ⟨B,15,none⟩=some (.int .i64 bvn)∧wx.cell? ⟨B,16,none⟩=some (.int .i64 bvd)∧wx.cell? ⟨B,17,none⟩=some (.string bvs)∧wx.cell? ⟨B,18,none⟩=some (.slice qc nc kc))∧Below w.heap.size w wx)
    case first=>
     clear cS1 cS2
     go_wp2_with (first | (refine wpList_alloc_z rfl 85 rfl z85 al85 ?_) | (refine wpList_store_new rfl 85 (.tmp 10) (.tmp 49) rfl z85 (#[.slice pv2 n2 cv2,.bool false,.int .i64 r2,.slice pb2 b2 cb2,.int .i64 k,.int .i64 ak,.string anm,.int .i64 avk,.int .i64 avn,.int .i64 avd,.string avs,.slice qa na ka,.int .i64 bk,.string bnm,.int .i64 bvk,.int .i64 bvn,.int .i64 bvd,.string bvs,.slice qc nc kc]) rfl rfl (by kernel_rfl) rfl (by kernel_rfl) ?_))
     go_meet
     exact ⟨_,rfl,by simp,⟨by simp (maxDischargeDepth:=12) [go_sem],by simp (maxDischargeDepth:=12) [go_sem],by simp (maxDischargeDepth:=12) [go_sem],by simp (maxDischargeDepth:=12) [go_sem],by simp (maxDischargeDepth:=12) [go_sem],by simp (maxDischargeDepth:=12) [go_sem],by simp (maxDischargeDepth:=12) [go_sem],by simp (maxDischargeDepth:=12) [go_sem],by simp (maxDischargeDepth:=12) [go_sem],by simp (maxDischargeDepth:=12) [go_sem],by simp (maxDischargeDepth:=12) [go_sem],by simp (maxDischargeDepth:=12) [go_sem],by simp (maxDischargeDepth:=12) [go_sem],by simp (maxDischargeDepth:=12) [go_sem],by simp (maxDischargeDepth:=12) [go_sem]⟩,by go_grown⟩
    case rest=>
    obtain ⟨B,rfl,hlt,⟨g4,g5,g6,g7,g8,g9,g10,g11,g12,g13,g14,g15,g16,g17,g18⟩,hBc⟩:=hcut
    have hzc:=hBc.size
    clear hta htc hB0 hB1 hB2 hB3 hB4 hB5 hz0 hz1 hz2 hz3 hz4 hz5
    cases C with
    | true=>
     have hr:Hid (R=3):=(HR.out.symm)
     clear HR cS1 cS2
     go_wp2
     go_ret
     exact ⟨by rw [hr.out];first | rfl | trivial,by go_grown⟩
    | false=>
     have hB6:=hBc
     have hz6:=hzc
     by_cases hk:k=4
     ·subst hk
      have HR3:Hid ((if S1 || S2 then 4 else 0)=R):=by have h:=HR.out;show _=R;simpa using h
      clear HR
      go_wp2_with fail
      refine (cS1.out _ hB6).mono ?_
      rintro e w7 ⟨rfl,hb7⟩
      have hB7:Below w.heap.size w w7:=hB6.trans (hb7.mono hB6.size)
      have hz7:=hB7.size
      replace g5:=(hb7.cell (p:=⟨B,5,none⟩) hlt).trans g5
      replace g6:=(hb7.cell (p:=⟨B,6,none⟩) hlt).trans g6
      replace g7:=(hb7.cell (p:=⟨B,7,none⟩) hlt).trans g7
      replace g8:=(hb7.cell (p:=⟨B,8,none⟩) hlt).trans g8
      replace g9:=(hb7.cell (p:=⟨B,9,none⟩) hlt).trans g9
      replace g10:=(hb7.cell (p:=⟨B,10,none⟩) hlt).trans g10
      replace g11:=(hb7.cell (p:=⟨B,11,none⟩) hlt).trans g11
      replace g12:=(hb7.cell (p:=⟨B,12,none⟩) hlt).trans g12
      replace g13:=(hb7.cell (p:=⟨B,13,none⟩) hlt).trans g13
      replace g14:=(hb7.cell (p:=⟨B,14,none⟩) hlt).trans g14
      replace g15:=(hb7.cell (p:=⟨B,15,none⟩) hlt).trans g15
      replace g16:=(hb7.cell (p:=⟨B,16,none⟩) hlt).trans g16
      replace g17:=(hb7.cell (p:=⟨B,17,none⟩) hlt).trans g17
      replace g18:=(hb7.cell (p:=⟨B,18,none⟩) hlt).trans g18
      clear hb7 cS1
      cases S1 with
      | true=>
       have hr:Hid (R=4):=(by have h:=HR3.out;simp at h;exact h.symm)
       clear HR3 cS2
       go_wp2
       go_ret
       exact ⟨by rw [hr.out];first | rfl | trivial,by go_grown⟩
      | false=>
       go_wp2_with fail
       refine (cS2.out _ hB7).mono ?_
       rintro e w8 ⟨rfl,hb8⟩
       have hB8:Below w.heap.size w w8:=Below.trans (by go_grown) (hb8.mono (by first | omega | (simp;omega)))
       have hz8:=hB8.size
       clear hb8
       clear cS2
       cases S2 with
       | true=>
        have hr:Hid (R=4):=(by have h:=HR3.out;simp at h;exact h.symm)
        clear HR3
        go_wp2
        go_ret
        exact ⟨by rw [hr.out];first | rfl | trivial,by go_grown⟩
       | false=>
        have hr:Hid (R=0):=(by have h:=HR3.out;simp at h;exact h.symm)
        clear HR3
        go_wp2
        go_ret
        exact ⟨by rw [hr.out];first | rfl | trivial,by go_grown⟩
     ·have hr0:R=0:=by have h:=HR.out;simp [hk] at h;exact h.symm
      have hr:Hid (R=0):=(hr0)
      clear HR cS1 cS2 hr0
      go_wp2
      go_ret
      exact ⟨by rw [hr.out];first | rfl | trivial,by go_grown⟩
theorem caseOf_any (P O:Pt) (u v:Value) (w:World) (hu:PtV w u P) (hv:PtV w v O) (hO:PtB O):
  Calls Tryz.prog 26 #[u,v] w fun e w'=>e=.returned (.int .i64 (caseP P O))∧Below w.heap.size w w':=by
 cases O with
 | fx x=>exact caseOf_fx P x u v w hu hv hO
 | neg x o=>exact caseOf_neg P x o u v w hu hv hO
 | cmp x k a b=>exact caseOf_cmp P x k a b u v w hu hv hO
def nI (ps:List Pt):Int:=if (negP ps).isEmpty then -1 else ((posP ps).length:Int)
theorem pos_cons {p:Pt} {l:List Pt} (h:(under p).2=false):posP (p::l)=p::posP l:=by unfold posP;rw [List.takeWhile_cons_of_pos (by rw [h];rfl)]
theorem neg_cons {p:Pt} {l:List Pt} (h:(under p).2=false):negP (p::l)=negP l:=by unfold negP;rw [List.dropWhile_cons_of_pos (by rw [h];rfl)]
theorem pos_stop {p:Pt} {l:List Pt} (h:(under p).2=true):posP (p::l)=[]:=by unfold posP;rw [List.takeWhile_cons_of_neg (by rw [h];decide)]
theorem neg_stop {p:Pt} {l:List Pt} (h:(under p).2=true):negP (p::l)=p::l:=by unfold negP;rw [List.dropWhile_cons_of_neg (by rw [h];decide)]
theorem pos_neg (ps:List Pt):posP ps++negP ps=ps:=List.takeWhile_append_dropWhile ..
theorem idxP_any (ps:List Pt) (V:Value) (w:World) (hV:PtLst w V ps):
  Calls Tryz.prog 114 #[V,.func (.func 115) #[] #[]] w fun e w'=>e=.returned (.int .i64 (nI ps))∧Below w.heap.size w w':=by
 have eg:∀ args w,(callFunc 115 args).run Tryz.prog w=.ok (.enter 115 args) w:=enters_of Tryz.func115 (by kernel_rfl) rfl
 obtain ⟨p,c,rfl,hc,hl,HX0⟩:=hV
 have HX:Hid (∀ i (h:i<ps.length),∃ b off u,p=some ⟨b,off,none⟩∧b<w.heap.size∧w.cell? ⟨b,off+i,none⟩=some u∧PtV w u ps[i]):=HX0
 obtain ⟨n,en⟩:∃ n:Nat,Hid (ps.length=n):=⟨_,rfl⟩
 rw [en.out] at hl hc ⊢
 obtain ⟨R,eR⟩:∃ R:Int,Hid (nI ps=R):=⟨_,rfl⟩
 have HR:Hid (R=if (negP (ps.drop 0)).isEmpty then -1 else ((0+(posP (ps.drop 0)).length:Nat):Int)):=by rw [List.drop_zero,Nat.zero_add];exact eR.out.symm
 rw [eR.out]
 clear HX0
 go_enter Tryz.func114,Tryz.ntmps114
 go_wp2
 go_loopw [8] (fun i wr=>∃ k:Nat,k≤n∧i=.int .i64 k∧Hid (R=if (negP (ps.drop k)).isEmpty then -1 else ((k+(posP (ps.drop k)).length:Nat):Int))∧Below w.heap.size w wr) (fun i _=>n - (intOf i).toNat)
 case atStart=>exact ⟨0,Nat.zero_le _,rfl,HR,Below.refl _ _⟩
 case round=>
  obtain ⟨k,hk,rfl,hr,hB⟩:=hrel
  by_cases hlt:k<n
  ·have kx:k<ps.length:=by have:=en.out;omega
   have hlt':(k:Int)<n:=by omega
   obtain ⟨b,off,u,rfl,hb,r0,hP⟩:=HX.out k kx
   have a0:=(hB.cell (p:=⟨b,off+k,none⟩) hb).trans r0
   have hr2:=hr.out
   rw [List.drop_eq_getElem_cons kx] at hr2
   have HR2:Hid (R=if (negP (ps[k]::ps.drop (k+1))).isEmpty then -1 else ((k+(posP (ps[k]::ps.drop (k+1))).length:Nat):Int)):=hr2
   have cN:Hid (Calls Tryz.prog 115 #[u] wr fun e w'=>e=.returned (.bool (under ps[k]).2)∧Below wr.heap.size wr w'):=isNot_any ps[k] u wr (hP.keep hB)
   obtain ⟨T,vv,rfl⟩:=hP.lens
   have tail:((under ps[k]).2=true→Hid (R=(k:Int)))∧((under ps[k]).2=false→Hid (R=if (negP (ps.drop (k+1))).isEmpty then -1 else ((k+1+(posP (ps.drop (k+1))).length:Nat):Int))):=by
    constructor
    ·intro h
     have e:=HR2.out
     rw [neg_stop h,pos_stop h] at e
     exact e.trans (by first | (simp;done) | simp [kx])
    ·intro h
     have e:=HR2.out
     rw [neg_cons h,pos_cons h] at e
     show _=_
     rw [e,List.length_cons]
     congr 2
     omega
   have TL:Hid (((under ps[k]).2=true→Hid (R=(k:Int)))∧((under ps[k]).2=false→Hid (R=if (negP (ps.drop (k+1))).isEmpty then -1 else ((k+1+(posP (ps.drop (k+1))).length:Nat):Int)))):=tail
   clear r0 hr hr2 HR2 tail hP
   generalize (under ps[k]).2=N at*
   go_wp2_with fail
   refine cN.out.mono ?_
   rintro e w2 ⟨rfl,hb2⟩
   have B2:Below w.heap.size w w2:=hB.trans (hb2.mono hB.size)
   obtain ⟨t1,t2⟩:=TL.out
   clear hb2 a0 cN TL
   cases N with
   | true=>
    have hr3:=t1 rfl
    clear t1 t2
    go_wp2
    go_ret
    exact ⟨by rw [hr3.out];rfl,B2⟩
   | false=>
    have hr3:=t2 rfl
    clear t1 t2
    go_wp2
    exact ⟨⟨k+1,by omega,by go_num,hr3,B2⟩,by simp [intOf];omega⟩
  ·have c2:¬ (k:Int)<n:=by omega
   have hr3:R= -1:=by
    have h:=hr.out
    rw [List.drop_eq_nil_of_le (by have:=en.out;omega)] at h
    exact h
   go_wp2
   go_ret
   exact ⟨by first | rfl | (rw [hr3];rfl),hB⟩
theorem pos_len (ps:List Pt):(posP ps).length≤ps.length∧ps.take (posP ps).length=posP ps∧ps.drop (posP ps).length=negP ps:=by
 have h:=pos_neg ps
 have hl:(posP ps).length≤ps.length:=by have:=congrArg List.length h;rw [List.length_append] at this;omega
 refine ⟨hl, ?_, ?_⟩
 ·have e:(posP ps++negP ps).take (posP ps).length=posP ps:=List.take_left' rfl
  rwa [h] at e
 ·have e:(posP ps++negP ps).drop (posP ps).length=negP ps:=List.drop_left' rfl
  rwa [h] at e
theorem PtLst.pre {w:World} {p:Option Addr} {n c:Nat} {ps:List Pt} (h:PtLst w (.slice p n c) ps) (m:Nat) (hm:m≤ps.length):PtLst w (.slice p m c) (ps.take m):=by
 obtain ⟨p',c',e,hc,hl,hx⟩:=h
 injection e with e1 e2 e3
 subst e1 e3
 refine ⟨p,c,by rw [List.length_take,Nat.min_eq_left hm],by rw [List.length_take];omega,by rw [List.length_take];omega,fun i hi=> ?_⟩
 rw [List.length_take] at hi
 obtain ⟨b,off,u,h1,h2,h3,h4⟩:=hx i (by omega)
 exact ⟨b,off,u,h1,h2,h3,by rw [List.getElem_take];exact h4⟩
def cvP (vars:List ByteArray) (h:Pt):Bool:=(under h).2 && ((under h).1.about.acc && amg (under h).1.about.vars vars)
theorem isJoined_any (ps:List Pt) (V:Value) (w:World) (hV:PtLst w V ps) (hT:((ps.map fun p=>p.about.vars).flatten).length≤1000000000):
  Calls Tryz.prog 84 #[V] w fun e w'=>e=.returned (.bool (joinP ps))∧Below w.heap.size w w':=by
 have CA:Hid (∀ (a:Bool) (r:Int) (pv pb:Option Addr) (nv nb cv cb:Nat) (W:World),Calls Tryz.prog 197 #[.agg #[.slice pv nv cv,.bool a,.int .i64 r,.slice pb nb cb]] W fun e w'=>e=.returned (.agg #[.slice pv nv cv,.bool a,.int .i64 r,.slice pb nb cb])∧Below W.heap.size W w'):=fun a r pv pb nv nb cv cb W=>about_fx (.bool true) (.bool true) a r pv pb nv nb cv cb W
 have cI:Hid (Calls Tryz.prog 114 #[V,.func (.func 115) #[] #[]] w fun e w'=>e=.returned (.int .i64 (nI ps))∧Below w.heap.size w w'):=idxP_any ps V w hV
 obtain ⟨hm,hp1,hp2⟩:=pos_len ps
 have hV0:=hV
 obtain ⟨p,c,rfl,hc,hl,HX0⟩:=hV
 obtain ⟨m,em⟩:∃ m:Nat,Hid ((posP ps).length=m):=⟨_,rfl⟩
 rw [em.out] at hm hp1 hp2
 have hpre:PtLst w (.slice p m c) (posP ps):=by have h:=hV0.pre m hm;rwa [hp1] at h
 have cV:Hid (∀ W:World,Below w.heap.size w W→Calls Tryz.prog 110 #[.slice p m c] W fun e w'=>∃ v,e=.returned v∧OwnN W.heap.size v (varsP (posP ps)) w'∧Below W.heap.size W w'):=fun W hW=>varsOf_any (posP ps) _ W (hpre.below hW) (by
  have h2:((posP ps).map fun p=>p.about.vars).flatten.length≤((ps.map fun p=>p.about.vars).flatten).length:=by
   conv=>rhs;rw [← pos_neg ps]
   rw [List.map_append,List.flatten_append,List.length_append]
   omega
  omega)
 have cAc:Hid (∀ W:World,Below w.heap.size w W→Calls Tryz.prog 85 #[.slice p m c] W fun e w'=>e=.returned (.bool (accP (posP ps)))∧Below W.heap.size W w'):=fun W hW=>accepted_any (posP ps) _ W (hpre.below hW)
 have lV:(varsP (posP ps)).length≤1000000000:=by
  have h:=uniN_len [((posP ps).map fun p=>p.about.vars).flatten]
  have h2:((posP ps).map fun p=>p.about.vars).flatten.length≤((ps.map fun p=>p.about.vars).flatten).length:=by
   conv=>rhs;rw [← pos_neg ps]
   rw [List.map_append,List.flatten_append,List.length_append]
   omega
  unfold varsP
  simp only [List.flatten_cons,List.flatten_nil,List.append_nil] at h
  omega
 have hN:nI ps=if m=ps.length then -1 else (m:Int):=by
  unfold nI
  rw [em.out]
  have h:=congrArg List.length hp2
  rw [List.length_drop] at h
  by_cases hz:m=ps.length
  ·rw [if_pos hz,if_pos]
   rw [List.isEmpty_iff_length_eq_zero]
   omega
  ·rw [if_neg hz,if_neg]
   rw [List.isEmpty_iff_length_eq_zero]
   omega
 have hR:Hid (joinP ps=((ps.drop m).all (cvP (varsP (posP ps))) && (decide (0<m) && accP (posP ps)))):=by
  show _=_
  unfold joinP
  rw [← hp2]
  congr 1
  congr 1
  rw [← em.out]
  cases posP ps<;>rfl
 obtain ⟨RR,eRR⟩:∃ RR:Bool,Hid (joinP ps=RR):=⟨_,rfl⟩
 have HRR:Hid (RR=((ps.drop m).all (cvP (varsP (posP ps))) && (decide (0<m) && accP (posP ps)))):=eRR.out.symm.trans hR.out
 rw [eRR.out]
 have HX:Hid (∀ i (h:i<ps.length),∃ b off u,p=some ⟨b,off,none⟩∧b<w.heap.size∧w.cell? ⟨b,off+i,none⟩=some u∧PtV w u ps[i]):=HX0
 obtain ⟨VS,eVS⟩:∃ VS:List ByteArray,Hid (varsP (posP ps)=VS):=⟨_,rfl⟩
 obtain ⟨AC,eAC⟩:∃ AC:Bool,Hid (accP (posP ps)=AC):=⟨_,rfl⟩
 rw [eVS.out] at cV lV HRR
 rw [eAC.out] at cAc HRR
 obtain ⟨n,en⟩:∃ n:Nat,Hid (ps.length=n):=⟨_,rfl⟩
 rw [en.out] at hm hc hl hN cI ⊢
 clear hV0 hpre hp1 hp2 em hR eRR HX0 hT eVS eAC
 have cI2:Hid (Calls Tryz.prog 114 #[.slice p n c,.func (.func 115) #[] #[]] w fun e w'=>e=.returned (.int .i64 (if m=n then -1 else (m:Int)))∧Below w.heap.size w w'):=by rw [← hN];exact cI.out
 clear cI hN
 go_enter Tryz.func84,Tryz.ntmps84
 go_wp2_with fail
 refine cI2.out.mono ?_
 rintro e w1 ⟨rfl,hB1⟩
 clear cI2
 go_upto_if 13 with fail
 go_cut [3] (fun s3 wx=>w1=wx∧s3=.int .i64 (m:Int))
 case first=>
  by_cases hmn:m=n
  ·subst hmn
   simp only [if_pos]
   go_wp2_with fail
   go_meet
   exact ⟨rfl,rfl⟩
  ·simp only [if_neg hmn]
   have h0:¬ ((m:Int)<0):=by omega
   go_wp2_with fail
   go_meet
   exact ⟨rfl,rfl⟩
 case rest=>
 obtain ⟨rfl,rfl⟩:=hcut
 have hm1:(m:Int)≤(c:Int):=by omega
 have hm2:(0:Int)≤(m:Int):=by omega
 have hm3:(m:Int)≤(n:Int):=by omega
 have hm4:m≤c:=by omega
 go_wp2_with fail
 refine (cV.out _ hB1).mono ?_
 rintro e w2 ⟨v2,rfl,hO2,hb2⟩
 have hB2:Below w.heap.size w w2:=hB1.trans (hb2.mono hB1.size)
 have HN2:Hid (NmsAt w2 v2 VS):=hO2.nms (by omega)
 obtain ⟨p2,c2,rfl, -⟩:=hO2.cap
 clear hb2 hO2 cV
 go_upto_region 6 with fail
 go_cut [23,24,25] (fun s23 s24 s25 wx=>w2=wx∧∃ sp sc,s23=.slice sp (n - m) sc∧s24=.int .i64 ((n - m:Nat):Int)∧s25=.int .i64 0∧Hid (∀ b off,p=some ⟨b,off,none⟩→m<n→sp=some ⟨b,off+m,none⟩))
 case first=>
  clear CA HX HN2 cAc HRR
  by_cases hmc:m=c
  ·have hmn:m=n:=by omega
   subst hmn
   subst hmc
   go_wp2
   go_meet
   exact ⟨rfl,p,0,by simp,by simp,rfl,fun b off _ h=>absurd h (by omega)⟩
  ·cases p with
   | none=>
    go_wp2
    go_meet
    exact ⟨rfl,_,_,rfl,by first | rfl | go_num,rfl,fun b off h=>by cases h⟩
   | some a=>
    obtain ⟨b,off,pa⟩:=a
    have hcm:m<c:=by omega
    go_wp2
    go_meet
    exact ⟨rfl,_,_,rfl,by first | rfl | go_num,rfl,fun b' off' h h2=>by
     injection h with h
     injection h with e1 e2 e3
     subst e1 e2 e3
     first | rfl | simp [Addr.add]⟩
 case rest=>
 obtain ⟨rfl,sp,sc,rfl,rfl,rfl,HSP⟩:=hcut
 have hL0:Hid (RR=((ps.drop (m+0)).all (cvP VS) && (decide (0<m) && AC))):=HRR
 have hfd:=fld_acc
 have hfd2:=fld_vars
 obtain ⟨d,hd⟩:∃ d:Nat,Hid (n - m=d):=⟨_,rfl⟩
 have hdn:m+d=n:=by have:=hd.out;omega
 rw [hd.out]
 go_wp2
 go_loopw [25] (fun v25 wr=>∃ k:Nat,k≤d∧v25=.int .i64 k∧Hid (RR=((ps.drop (m+k)).all (cvP VS) && (decide (0<m) && AC)))∧Below w.heap.size w wr∧Below w2.heap.size w2 wr) (fun v25 _=>d - (intOf v25).toNat)
 case atStart=>exact ⟨0,Nat.zero_le _,rfl,hL0,hB2,Below.refl _ _⟩
 case round=>
  obtain ⟨k,hk,rfl,hr,hB,hBB⟩:=hrel
  clear hL0 HRR
  by_cases hlt:k<d
  ·have kx:m+k<ps.length:=by have:=en.out;omega
   have hlt':(k:Int)<(d:Int):=by omega
   obtain ⟨b,off,u,hp,hb,r0,hP⟩:=HX.out (m+k) kx
   have hsp:=HSP.out b off hp (by omega)
   subst hsp
   have a0:wr.cell? ⟨b,off+m+k,none⟩=some u:=by
    rw [Nat.add_assoc]
    exact (hB.cell (p:=⟨b,off+(m+k),none⟩) hb).trans r0
   have hr2:Hid (RR=((cvP VS ps[m+k] && (ps.drop (m+(k+1))).all (cvP VS)) && (decide (0<m) && AC))):=by
    have h:=hr.out
    rw [List.drop_eq_getElem_cons kx,List.all_cons] at h
    exact h
   have cU:Hid (Calls Tryz.prog 113 #[u] wr fun e w'=>∃ v,e=.returned (.tuple #[v,.bool (under ps[m+k]).2])∧PtV wr v (under ps[m+k]).1∧Below wr.heap.size wr w'):=underNot_any ps[m+k] u wr (hP.keep hB)
   obtain ⟨T,vv,rfl⟩:=hP.lens
   have cA:Hid (∀ (W:World) (X:Value),Below w2.heap.size w2 W→NmsAt W X (under ps[m+k]).1.about.vars→Calls Tryz.prog 47 #[X,.slice p2 VS.length c2] W fun e w'=>e=.returned (.bool (amg (under ps[m+k]).1.about.vars VS))∧Below W.heap.size W w'):=fun W X hW h=>amg_any _ _ X _ W h (HN2.out.below hW)
   have hr3:Hid (RR=(((under ps[m+k]).2 && ((under ps[m+k]).1.about.acc && amg (under ps[m+k]).1.about.vars VS)) && (ps.drop (m+(k+1))).all (cvP VS) && (decide (0<m) && AC))):=hr2
   clear r0 hr hr2 hP hp
   generalize (under ps[m+k]).2=N at*
   generalize (under ps[m+k]).1=G at*
   obtain ⟨NX,eNX⟩:∃ NX:Bool,Hid ((ps.drop (m+(k+1))).all (cvP VS)=NX):=⟨(ps.drop (m+(k+1))).all (cvP VS),(show _=_ from rfl)⟩
   rw [eNX.out] at hr3
   have hRN:Hid (NX=(ps.drop (m+(k+1))).all (cvP VS)):=eNX.out.symm
   clear eNX
   go_wp2_with fail
   refine cU.out.mono ?_
   rintro e w3 ⟨v3,rfl,hG,hb3⟩
   have hB3:Below w.heap.size w w3:=hB.trans (hb3.mono hB.size)
   have hBB3:Below w2.heap.size w2 w3:=hBB.trans (hb3.mono hBB.size)
   obtain ⟨T1,vv1,pv1,pb1,cv1,cb1,rfl,hv1, -,hm1⟩:=hG.abt
   have cA1:Hid (∀ W:World,Below w2.heap.size w2 W→Below wr.heap.size wr W→Calls Tryz.prog 47 #[.slice pv1 G.about.vars.length cv1,.slice p2 VS.length c2] W fun e w'=>e=.returned (.bool (amg G.about.vars VS))∧Below W.heap.size W w'):=fun W h1 h2=>cA.out W _ h1 (hv1.below h2)
   clear cU hG hv1 cA
   generalize amg G.about.vars VS=AM at*
   generalize G.about.acc=A1 at*
   generalize G.about.reach=r1 at*
   generalize G.about.vars.length=n1 at*
   generalize G.about.bare.length=b1 at*
   cases N with
   | false=>
    have hrf:RR=false:=by have h:=hr3.out;simpa using h
    clear hr3 a0 CA cA1 hRN
    go_wp2
    go_ret
    exact ⟨by rw [hrf];rfl,by go_grown⟩
   | true=>
    go_wp2_with fail
    refine (CA.out _ _ _ _ _ _ _ _ _).mono ?_
    rintro e w4 ⟨rfl,hb4⟩
    have hB4:Below w.heap.size w w4:=hB3.trans (hb4.mono hB3.size)
    have hBB4:Below w2.heap.size w2 w4:=hBB3.trans (hb4.mono hBB3.size)
    have hR4:Below wr.heap.size wr w4:=hb3.trans (hb4.mono hb3.size)
    cases A1 with
    | false=>
     have hrf:RR=false:=by have h:=hr3.out;simpa using h
     clear hr3 a0 CA cA1 hRN hb3 hb4
     go_wp2
     go_ret
     exact ⟨by rw [hrf];rfl,by go_grown⟩
    | true=>
     go_wp2_with fail
     refine (CA.out _ _ _ _ _ _ _ _ _).mono ?_
     rintro e w5 ⟨rfl,hb5⟩
     have hB5:Below w.heap.size w w5:=hB4.trans (hb5.mono hB4.size)
     have hBB5:Below w2.heap.size w2 w5:=hBB4.trans (hb5.mono hBB4.size)
     have hR5:Below wr.heap.size wr w5:=hR4.trans (hb5.mono hR4.size)
     clear hb3 hb4 hb5
     go_wp2_with fail
     refine (cA1.out _ hBB5 hR5).mono ?_
     rintro e w6 ⟨rfl,hb6⟩
     have hB6:Below w.heap.size w w6:=hB5.trans (hb6.mono hB5.size)
     have hBB6:Below w2.heap.size w2 w6:=hBB5.trans (hb6.mono hBB5.size)
     clear hb6 cA1 CA a0 hm1
     cases AM with
     | false=>
      have hrf:RR=false:=by have h:=hr3.out;simpa using h
      clear hr3 hRN
      go_wp2
      go_ret
      exact ⟨by rw [hrf];rfl,by go_grown⟩
     | true=>
      have hr4:Hid (RR=((ps.drop (m+(k+1))).all (cvP VS) && (decide (0<m) && AC))):=by
       have h:=hr3.out
       rw [hRN.out] at h
       show RR=_
       simpa using h
      clear hr3 hRN
      go_wp2
      exact ⟨⟨k+1,by omega,by go_num,hr4,hB6,hBB6⟩,by simp [intOf];omega⟩
  ·have c2:¬ (k:Int)<(d:Int):=by omega
   have hr3:Hid (RR=(decide (0<m) && AC)):=by
    have h:=hr.out
    rw [List.drop_eq_nil_of_le (by have:=en.out;omega)] at h
    exact h
   clear hr HX
   by_cases hm0:0<m
   ·have hm5:(0:Int)<(m:Int):=by omega
    go_wp2_with fail
    refine (cAc.out _ hB).mono ?_
    rintro e w3 ⟨rfl,hb3⟩
    have hB3:Below w.heap.size w w3:=hB.trans (hb3.mono hB.size)
    clear hb3 cAc
    go_wp2
    go_ret
    exact ⟨by rw [hr3.out];simp [hm0],hB3⟩
   ·have hm5:¬ ((0:Int)<(m:Int)):=by omega
    go_wp2
    go_ret
    exact ⟨by rw [hr3.out];simp [hm0],by go_grown⟩
end Go.Proofs.YthodedagbbifbaaGreat
namespace Go.Proofs.YthodedagbbifbaaGreat
open Go.RowKit LX Go.Shelf Go.Sort
set_option linter.unusedVariables false
theorem accd_and (f:Fm) (q:FQ) (ps:List Pt) (V:Value) (w:World) (hk:f.k=8) (hq:QAt w (f,q)) (hP:PtLst w V ps) (h1:1<ps.length) (hO:PtB (ptN ps 1)):
  Calls Tryz.prog 51 #[.agg #[.int .i64 f.k,.string f.nm,.int .i64 f.op,q.v,q.t,.int .i64 f.lo,.int .i64 f.hi,.bool f.opn,q.s,q.r],V] w fun e w'=>e=.returned (.bool (decide (caseP (ptN ps 0) (ptN ps 1)≠0)))∧Below w.heap.size w w':=by
 obtain ⟨⟨pv,cv,ev⟩,⟨pt,ct,et⟩,⟨ps_,cs,es⟩,⟨pr,cr,er⟩⟩:=sfm_forms hq
 obtain ⟨b,off,c,u0,u1,rfl,hbl,e0,e1,p0,p1⟩:=hP.two h1
 have cK:Hid (∀ W:World,Below w.heap.size w W→Calls Tryz.prog 26 #[u0,u1] W fun e w'=>e=.returned (.int .i64 (caseP (ptN ps 0) (ptN ps 1)))∧Below W.heap.size W w'):=fun W hW=>caseOf_any _ _ u0 u1 W (p0.keep hW) (p1.keep hW) hO
 obtain ⟨T0,vv0,rfl⟩:=p0.lens
 obtain ⟨T1,vv1,rfl⟩:=p1.lens
 rw [ev,et,es,er,hk]
 clear hq ev et es er hk hP p0 p1 hO
 generalize caseP (ptN ps 0) (ptN ps 1)=R at*
 generalize ps.length=np at*
 generalize f.vars.length=nv at*
 generalize f.terms.length=nt at*
 generalize f.subs.length=ns at*
 generalize f.rgx.length=nr at*
 generalize f.nm=nm at*
 generalize f.op=op at*
 generalize f.lo=lo at*
 generalize f.hi=hi at*
 generalize f.opn=o at*
 have hnp0:0<np:=by omega
 have hnp0':(0:Int)<(np:Int):=by omega
 have hnp:(1:Int)<(np:Int):=by omega
 go_enter Tryz.func51,Tryz.ntmps51
 go_upto_region 3 with fail
 refine wp_world ?_
 intro W0 hW0
 have KW0:Below w.heap.size w W0:=by rw [hW0];go_grown
 have LW0:w.heap.size<W0.heap.size:=by rw [hW0];first | (simp;done) | (simp;omega)
 have q20:W0.cell? ⟨b,off,none⟩=some (.iface T0 vv0):=(KW0.cell (p:=⟨b,off,none⟩) hbl).trans e0
 have q21:W0.cell? ⟨b,off+1,none⟩=some (.iface T1 vv1):=(KW0.cell (p:=⟨b,off+1,none⟩) hbl).trans e1
 have hbW:b<W0.heap.size:=Nat.lt_of_lt_of_le hbl KW0.size
 clear hW0
 have c20:∀ nq osq,(grow (W0.drewN nq) osq).cell? ⟨b,off,none⟩=some (.iface T0 vv0):=fun nq osq=>by rw [scell_grow W0 nq osq hbW];exact q20
 have c21:∀ nq osq,(grow (W0.drewN nq) osq).cell? ⟨b,off+1,none⟩=some (.iface T1 vv1):=fun nq osq=>by rw [scell_grow W0 nq osq hbW];exact q21
 have hcK:∀ nq osq,Calls Tryz.prog 26 #[.iface T0 vv0,.iface T1 vv1] (grow (W0.drewN nq) osq) fun e w'=>e=.returned (.int .i64 R)∧∃ q os',w'=grow ((grow (W0.drewN nq) osq).drewN q) os':=fun nq osq=>(Calls.drawn (cK.out (grow (W0.drewN nq) osq) (KW0.trans ((sBelow_grow W0 nq osq).mono KW0.size)))).mono fun e w' ⟨he,hb,hd⟩=>⟨he,grown_of_below hb hd⟩
 have mixed:Tryz.prog.follows .mixedOrders=true:=by kernel_rfl
 clear q20 q21 e0 e1 cK
 by_cases hR:R=0
 ·subst hR
  go_quiet_grown (first | (go_at_call 26;refine Calls.grown_of (hcK _ _)))
  have hw_:Below W0.heap.size W0 (grow (W0.drewN nq) osq):=sBelow_grow W0 nq osq
  clear hcK c20 c21
  generalize grow (W0.drewN nq) osq=v1 at hw_ ⊢
  have Kv1:Below w.heap.size w v1:=KW0.trans (hw_.mono KW0.size)
  clear hw_
  go_wp2
  go_ret
  exact ⟨by first | rfl | simp,by go_grown⟩
 ·have hR1:(R==0)=false:=by simpa using hR
  go_quiet_grown (first | (go_at_call 26;refine Calls.grown_of (hcK _ _)))
  have hw_:Below W0.heap.size W0 (grow (W0.drewN nq) osq):=sBelow_grow W0 nq osq
  clear hcK c20 c21
  generalize grow (W0.drewN nq) osq=v1 at hw_ ⊢
  have Kv1:Below w.heap.size w v1:=KW0.trans (hw_.mono KW0.size)
  clear hw_
  go_wp2
  go_ret
  exact ⟨by simp [hR],by go_grown⟩
theorem accd_since (f:Fm) (q:FQ) (ps:List Pt) (V:Value) (w:World) (hk:f.k=15) (hq:QAt w (f,q)) (hP:PtLst w V ps) (h1:1<ps.length):
  Calls Tryz.prog 51 #[.agg #[.int .i64 f.k,.string f.nm,.int .i64 f.op,q.v,q.t,.int .i64 f.lo,.int .i64 f.hi,.bool f.opn,q.s,q.r],V] w fun e w'=>e=.returned (.bool (heldP (ptN ps 0) (ptN ps 1)))∧Below w.heap.size w w':=by
 obtain ⟨⟨pv,cv,ev⟩,⟨pt,ct,et⟩,⟨ps_,cs,es⟩,⟨pr,cr,er⟩⟩:=sfm_forms hq
 obtain ⟨b,off,c,u0,u1,rfl,hbl,e0,e1,p0,p1⟩:=hP.two h1
 have cK:Hid (∀ W:World,Below w.heap.size w W→Calls Tryz.prog 83 #[u0,u1] W fun e w'=>e=.returned (.bool (heldP (ptN ps 0) (ptN ps 1)))∧Below W.heap.size W w'):=fun W hW=>isHeld_any _ _ u0 u1 W (p0.keep hW) (p1.keep hW)
 obtain ⟨T0,vv0,rfl⟩:=p0.lens
 obtain ⟨T1,vv1,rfl⟩:=p1.lens
 rw [ev,et,es,er,hk]
 clear hq ev et es er hk hP p0 p1
 generalize heldP (ptN ps 0) (ptN ps 1)=R at*
 generalize ps.length=np at*
 generalize f.vars.length=nv at*
 generalize f.terms.length=nt at*
 generalize f.subs.length=ns at*
 generalize f.rgx.length=nr at*
 generalize f.nm=nm at*
 generalize f.op=op at*
 generalize f.lo=lo at*
 generalize f.hi=hi at*
 generalize f.opn=o at*
 have hnp0:0<np:=by omega
 have hnp0':(0:Int)<(np:Int):=by omega
 have hnp:(1:Int)<(np:Int):=by omega
 go_enter Tryz.func51,Tryz.ntmps51
 go_upto_region 5 with fail
 refine wp_world ?_
 intro W0 hW0
 have KW0:Below w.heap.size w W0:=by rw [hW0];go_grown
 have LW0:w.heap.size<W0.heap.size:=by rw [hW0];first | (simp;done) | (simp;omega)
 have q20:W0.cell? ⟨b,off,none⟩=some (.iface T0 vv0):=(KW0.cell (p:=⟨b,off,none⟩) hbl).trans e0
 have q21:W0.cell? ⟨b,off+1,none⟩=some (.iface T1 vv1):=(KW0.cell (p:=⟨b,off+1,none⟩) hbl).trans e1
 have hbW:b<W0.heap.size:=Nat.lt_of_lt_of_le hbl KW0.size
 clear hW0
 have c20:∀ nq osq,(grow (W0.drewN nq) osq).cell? ⟨b,off,none⟩=some (.iface T0 vv0):=fun nq osq=>by rw [scell_grow W0 nq osq hbW];exact q20
 have c21:∀ nq osq,(grow (W0.drewN nq) osq).cell? ⟨b,off+1,none⟩=some (.iface T1 vv1):=fun nq osq=>by rw [scell_grow W0 nq osq hbW];exact q21
 have hcK:∀ nq osq,Calls Tryz.prog 83 #[.iface T0 vv0,.iface T1 vv1] (grow (W0.drewN nq) osq) fun e w'=>e=.returned (.bool R)∧∃ q os',w'=grow ((grow (W0.drewN nq) osq).drewN q) os':=fun nq osq=>(Calls.drawn (cK.out (grow (W0.drewN nq) osq) (KW0.trans ((sBelow_grow W0 nq osq).mono KW0.size)))).mono fun e w' ⟨he,hb,hd⟩=>⟨he,grown_of_below hb hd⟩
 have mixed:Tryz.prog.follows .mixedOrders=true:=by kernel_rfl
 clear q20 q21 e0 e1 cK
 go_quiet_grown (first | (go_at_call 83;refine Calls.grown_of (hcK _ _)))
 have hw_:Below W0.heap.size W0 (grow (W0.drewN nq) osq):=sBelow_grow W0 nq osq
 clear hcK c20 c21
 generalize grow (W0.drewN nq) osq=v1 at hw_ ⊢
 have Kv1:Below w.heap.size w v1:=KW0.trans (hw_.mono KW0.size)
 clear hw_
 go_wp2
 go_ret
 exact ⟨rfl,by go_grown⟩
theorem accd_until (f:Fm) (q:FQ) (ps:List Pt) (V:Value) (w:World) (hk:f.k=16) (hq:QAt w (f,q)) (hP:PtLst w V ps) (h1:1<ps.length):
  Calls Tryz.prog 51 #[.agg #[.int .i64 f.k,.string f.nm,.int .i64 f.op,q.v,q.t,.int .i64 f.lo,.int .i64 f.hi,.bool f.opn,q.s,q.r],V] w fun e w'=>e=.returned (.bool (heldP (ptN ps 0) (ptN ps 1) && !f.opn))∧Below w.heap.size w w':=by
 obtain ⟨⟨pv,cv,ev⟩,⟨pt,ct,et⟩,⟨ps_,cs,es⟩,⟨pr,cr,er⟩⟩:=sfm_forms hq
 obtain ⟨b,off,c,u0,u1,rfl,hbl,e0,e1,p0,p1⟩:=hP.two h1
 have cK:Hid (∀ W:World,Below w.heap.size w W→Calls Tryz.prog 83 #[u0,u1] W fun e w'=>e=.returned (.bool (heldP (ptN ps 0) (ptN ps 1)))∧Below W.heap.size W w'):=fun W hW=>isHeld_any _ _ u0 u1 W (p0.keep hW) (p1.keep hW)
 obtain ⟨T0,vv0,rfl⟩:=p0.lens
 obtain ⟨T1,vv1,rfl⟩:=p1.lens
 rw [ev,et,es,er,hk]
 clear hq ev et es er hk hP p0 p1
 generalize heldP (ptN ps 0) (ptN ps 1)=R at*
 generalize ps.length=np at*
 generalize f.vars.length=nv at*
 generalize f.terms.length=nt at*
 generalize f.subs.length=ns at*
 generalize f.rgx.length=nr at*
 generalize f.nm=nm at*
 generalize f.op=op at*
 generalize f.lo=lo at*
 generalize f.hi=hi at*
 generalize f.opn=o at*
 have hnp0:0<np:=by omega
 have hnp0':(0:Int)<(np:Int):=by omega
 have hnp:(1:Int)<(np:Int):=by omega
 go_enter Tryz.func51,Tryz.ntmps51
 go_upto_region 7 with fail
 refine wp_world ?_
 intro W0 hW0
 have KW0:Below w.heap.size w W0:=by rw [hW0];go_grown
 have LW0:w.heap.size<W0.heap.size:=by rw [hW0];first | (simp;done) | (simp;omega)
 have q7:W0.cell? ⟨w.heap.size,7,none⟩=some (.bool o):=by rw [hW0];simp (maxDischargeDepth:=12) [go_sem]
 have q20:W0.cell? ⟨b,off,none⟩=some (.iface T0 vv0):=(KW0.cell (p:=⟨b,off,none⟩) hbl).trans e0
 have q21:W0.cell? ⟨b,off+1,none⟩=some (.iface T1 vv1):=(KW0.cell (p:=⟨b,off+1,none⟩) hbl).trans e1
 have hbW:b<W0.heap.size:=Nat.lt_of_lt_of_le hbl KW0.size
 clear hW0
 have c20:∀ nq osq,(grow (W0.drewN nq) osq).cell? ⟨b,off,none⟩=some (.iface T0 vv0):=fun nq osq=>by rw [scell_grow W0 nq osq hbW];exact q20
 have c21:∀ nq osq,(grow (W0.drewN nq) osq).cell? ⟨b,off+1,none⟩=some (.iface T1 vv1):=fun nq osq=>by rw [scell_grow W0 nq osq hbW];exact q21
 have c7:∀ nq osq,(grow (W0.drewN nq) osq).cell? ⟨w.heap.size,7,none⟩=some (.bool o):=fun nq osq=>by rw [scell_grow W0 nq osq LW0];exact q7
 have hcK:∀ nq osq,Calls Tryz.prog 83 #[.iface T0 vv0,.iface T1 vv1] (grow (W0.drewN nq) osq) fun e w'=>e=.returned (.bool R)∧∃ q os',w'=grow ((grow (W0.drewN nq) osq).drewN q) os':=fun nq osq=>(Calls.drawn (cK.out (grow (W0.drewN nq) osq) (KW0.trans ((sBelow_grow W0 nq osq).mono KW0.size)))).mono fun e w' ⟨he,hb,hd⟩=>⟨he,grown_of_below hb hd⟩
 have mixed:Tryz.prog.follows .mixedOrders=true:=by kernel_rfl
 clear q20 q21 e0 e1 cK q7
 cases R with
 | false=>
  go_quiet_grown (first | (go_at_call 83;refine Calls.grown_of (hcK _ _)))
  have hw_:Below W0.heap.size W0 (grow (W0.drewN nq) osq):=sBelow_grow W0 nq osq
  clear hcK c20 c21 c7
  generalize grow (W0.drewN nq) osq=v1 at hw_ ⊢
  have Kv1:Below w.heap.size w v1:=KW0.trans (hw_.mono KW0.size)
  clear hw_
  go_wp2
  go_ret
  exact ⟨by simp,by go_grown⟩
 | true=>
  go_quiet_grown (first | (go_at_call 83;refine Calls.grown_of (hcK _ _)))
  have hw_:Below W0.heap.size W0 (grow (W0.drewN nq) osq):=sBelow_grow W0 nq osq
  clear hcK c20 c21 c7
  generalize grow (W0.drewN nq) osq=v1 at hw_ ⊢
  have Kv1:Below w.heap.size w v1:=KW0.trans (hw_.mono KW0.size)
  clear hw_
  go_wp2
  go_ret
  exact ⟨by simp,by go_grown⟩
theorem accd_join (f:Fm) (q:FQ) (ps:List Pt) (V:Value) (w:World) (hk:f.k=22) (hq:QAt w (f,q)) (hP:PtLst w V ps) (hT:((ps.map fun p=>p.about.vars).flatten).length≤1000000000):
  Calls Tryz.prog 51 #[.agg #[.int .i64 f.k,.string f.nm,.int .i64 f.op,q.v,q.t,.int .i64 f.lo,.int .i64 f.hi,.bool f.opn,q.s,q.r],V] w fun e w'=>e=.returned (.bool (joinP ps))∧Below w.heap.size w w':=by
 obtain ⟨⟨pv,cv,ev⟩,⟨pt,ct,et⟩,⟨ps_,cs,es⟩,⟨pr,cr,er⟩⟩:=sfm_forms hq
 have cJ:Hid (∀ W:World,Below w.heap.size w W→Calls Tryz.prog 84 #[V] W fun e w'=>e=.returned (.bool (joinP ps))∧Below W.heap.size W w'):=fun W hW=>isJoined_any ps V W (hP.below hW) hT
 obtain ⟨p,c,eV, -⟩:=hP
 subst eV
 rw [ev,et,es,er,hk]
 clear hq ev et es er hk hT
 generalize joinP ps=R at*
 generalize ps.length=np at*
 generalize f.vars.length=nv at*
 generalize f.terms.length=nt at*
 generalize f.subs.length=ns at*
 generalize f.rgx.length=nr at*
 generalize f.nm=nm at*
 generalize f.op=op at*
 generalize f.lo=lo at*
 generalize f.hi=hi at*
 generalize f.opn=o at*
 go_enter Tryz.func51,Tryz.ntmps51
 go_wp2_with fail
 refine (cJ.out _ (by go_grown)).mono ?_
 rintro e w1 ⟨rfl,hb1⟩
 have hB:Below w.heap.size w w1:=Below.trans (by go_grown) (hb1.mono (by simp))
 clear hb1 cJ
 go_wp2
 go_ret
 exact ⟨rfl,hB⟩
theorem accd_other (f:Fm) (q:FQ) (ps:List Pt) (V:Value) (w:World) (hk:¬ (f.k=8∨f.k=15∨f.k=16∨f.k=22)) (hq:QAt w (f,q)) (hP:PtLst w V ps) (hN:PtsN f ps) (hB:∀ t∈f.terms,TmB t):
  Calls Tryz.prog 51 #[.agg #[.int .i64 f.k,.string f.nm,.int .i64 f.op,q.v,q.t,.int .i64 f.lo,.int .i64 f.hi,.bool f.opn,q.s,q.r],V] w fun e w'=>e=.returned (.bool (accP ps && fitP f ps))∧Below w.heap.size w w':=by
 obtain ⟨⟨pv,cv,ev⟩,⟨pt,ct,et⟩,⟨ps_,cs,es⟩,⟨pr,cr,er⟩⟩:=sfm_forms hq
 have cJ:Hid (∀ W:World,Below w.heap.size w W→Calls Tryz.prog 85 #[V] W fun e w'=>e=.returned (.bool (accP ps))∧Below W.heap.size W w'):=fun W hW=>accepted_any ps V W (hP.below hW)
 have cF:Hid (∀ W:World,Below w.heap.size w W→Calls Tryz.prog 86 #[.agg #[.int .i64 f.k,.string f.nm,.int .i64 f.op,q.v,q.t,.int .i64 f.lo,.int .i64 f.hi,.bool f.opn,q.s,q.r],V] W fun e w'=>e=.returned (.bool (fitP f ps))∧Below W.heap.size W w'):=fun W hW=>isFit_any f q ps V W (hq.below hW) (hP.below hW) hN hB
 obtain ⟨p,c,eV, -⟩:=hP
 subst eV
 rw [ev,et,es,er] at cF ⊢
 have g8:¬ f.k=8:=by omega
 have g15:¬ f.k=15:=by omega
 have g16:¬ f.k=16:=by omega
 have g22:¬ f.k=22:=by omega
 clear hq ev et es er hk hN hB
 generalize fitP f ps=R at*
 generalize accP ps=A at*
 generalize ps.length=np at*
 generalize f.vars.length=nv at*
 generalize f.terms.length=nt at*
 generalize f.subs.length=ns at*
 generalize f.rgx.length=nr at*
 generalize f.nm=nm at*
 generalize f.op=op at*
 generalize f.lo=lo at*
 generalize f.hi=hi at*
 generalize f.opn=o at*
 generalize f.k=k at*
 go_enter Tryz.func51,Tryz.ntmps51
 go_wp2_with fail
 refine (cJ.out _ (by go_grown)).mono ?_
 rintro e w1 ⟨rfl,hb1⟩
 have K1:Below w.heap.size w w1:=Below.trans (by go_grown) (hb1.mono (by simp))
 have gb:∀ o,w1.cell? ⟨w.heap.size,o,none⟩=_:=fun o=>hb1.cell (p:=⟨w.heap.size,o,none⟩) (by simp)
 have q0:w1.cell? ⟨w.heap.size,0,none⟩=some (.int .i64 k):=(gb 0).trans (by simp (maxDischargeDepth:=12) [go_sem])
 have q1:w1.cell? ⟨w.heap.size,1,none⟩=some (.string nm):=(gb 1).trans (by simp (maxDischargeDepth:=12) [go_sem])
 have q2:w1.cell? ⟨w.heap.size,2,none⟩=some (.int .i64 op):=(gb 2).trans (by simp (maxDischargeDepth:=12) [go_sem])
 have q3:w1.cell? ⟨w.heap.size,3,none⟩=some (.slice pv nv cv):=(gb 3).trans (by simp (maxDischargeDepth:=12) [go_sem])
 have q4:w1.cell? ⟨w.heap.size,4,none⟩=some (.slice pt nt ct):=(gb 4).trans (by simp (maxDischargeDepth:=12) [go_sem])
 have q5:w1.cell? ⟨w.heap.size,5,none⟩=some (.int .i64 lo):=(gb 5).trans (by simp (maxDischargeDepth:=12) [go_sem])
 have q6:w1.cell? ⟨w.heap.size,6,none⟩=some (.int .i64 hi):=(gb 6).trans (by simp (maxDischargeDepth:=12) [go_sem])
 have q7:w1.cell? ⟨w.heap.size,7,none⟩=some (.bool o):=(gb 7).trans (by simp (maxDischargeDepth:=12) [go_sem])
 have q8:w1.cell? ⟨w.heap.size,8,none⟩=some (.slice ps_ ns cs):=(gb 8).trans (by simp (maxDischargeDepth:=12) [go_sem])
 have q9:w1.cell? ⟨w.heap.size,9,none⟩=some (.slice pr nr cr):=(gb 9).trans (by simp (maxDischargeDepth:=12) [go_sem])
 clear hb1 cJ gb
 cases A with
 | false=>
  clear cF
  go_wp2
  go_ret
  exact ⟨by simp,K1⟩
 | true=>
  go_wp2_with fail
  refine (cF.out _ K1).mono ?_
  rintro e w2 ⟨rfl,hb2⟩
  have K2:Below w.heap.size w w2:=K1.trans (hb2.mono K1.size)
  clear hb2 cF q0 q1 q2 q3 q4 q5 q6 q7 q8 q9
  go_wp2
  go_ret
  exact ⟨by simp,K2⟩
theorem isAccepted_any (f:Fm) (q:FQ) (ps:List Pt) (V:Value) (w:World) (hq:QAt w (f,q)) (hP:PtLst w V ps) (hN:PtsN f ps) (hB:∀ t∈f.terms,TmB t) (hO:PtB (ptN ps 1)) (hT:((ps.map fun p=>p.about.vars).flatten).length≤1000000000):
  Calls Tryz.prog 51 #[.agg #[.int .i64 f.k,.string f.nm,.int .i64 f.op,q.v,q.t,.int .i64 f.lo,.int .i64 f.hi,.bool f.opn,q.s,q.r],V] w fun e w'=>e=.returned (.bool (isAccP f ps))∧Below w.heap.size w w':=by
 unfold isAccP
 by_cases h8:f.k=8
 ·rw [if_pos h8];exact accd_and f q ps V w h8 hq hP (hN.2.1 (by omega)) hO
 rw [if_neg h8]
 by_cases h15:f.k=15
 ·rw [if_pos h15];exact accd_since f q ps V w h15 hq hP (hN.2.1 (by omega))
 rw [if_neg h15]
 by_cases h16:f.k=16
 ·rw [if_pos h16];exact accd_until f q ps V w h16 hq hP (hN.2.1 (by omega))
 rw [if_neg h16]
 by_cases h22:f.k=22
 ·rw [if_pos h22];exact accd_join f q ps V w h22 hq hP hT
 rw [if_neg h22]
 exact accd_other f q ps V w (by omega) hq hP hN hB
end Go.Proofs.YthodedagbbifbaaGreat
namespace Go.Proofs.YthodedagbbifbaaGreat
open Go.RowKit LX Go.Shelf
set_option linter.unusedVariables false
def tot (g:Pt→List ByteArray) (l:List Pt):Nat:=((l.map g).flatten).length
theorem tot_nil (g:Pt→List ByteArray):tot g []=0:=rfl
theorem tot_cons (g:Pt→List ByteArray) (p:Pt) (l:List Pt):tot g (p::l)=(g p).length+tot g l:=by unfold tot;simp
theorem tot_app (g:Pt→List ByteArray) (l m:List Pt):tot g (l++m)=tot g l+tot g m:=by unfold tot;simp
theorem uni_one (L:List ByteArray):(uniN [L]).length≤L.length:=by have:=uniN_len [L];simpa using this
theorem varF_len {f:Fm} (h:wfF f):(varF f).length≤9*nodF f:=by
 unfold varF
 split
 ·exact fre_len _ f (Nat.le_refl _) h
 ·simp
def VB (p:Pt) (n:Nat):Prop:=p.about.vars.length≤9*n∧p.about.bare.length≤n
theorem totF {e:Env}:∀ (l:List Fm),(∀ g∈l,VB (prtF g e) (nodF g))→tot (fun p=>p.about.vars) (prtFs l e)≤9*nodFs l∧tot (fun p=>p.about.bare) (prtFs l e)≤nodFs l
 | [],_=>by rw [prtFs,tot_nil,tot_nil];omega
 | f::l,h=>by
  have h1:=h f (by simp)
  have h2:=totF l (fun g hg=>h g (by simp [hg]))
  rw [prtFs,tot_cons,tot_cons,nodFs_cons]
  unfold VB at h1
  omega
theorem totR {e:Env}:∀ (l:List Rx),(∀ g∈l,VB (.fx (prtR g e)) (nodR g))→tot (fun p=>p.about.vars) (prtRs l e)≤9*nodRs l∧tot (fun p=>p.about.bare) (prtRs l e)≤nodRs l
 | [],_=>by rw [prtRs,tot_nil,tot_nil];omega
 | f::l,h=>by
  have h1:=h f (by simp)
  have h2:=totR l (fun g hg=>h g (by simp [hg]))
  rw [prtRs,tot_cons,tot_cons,nodRs_cons]
  unfold VB at h1
  omega
theorem bar_len (f:Fm) (l:List Pt):(barIn f l).length≤1+tot (fun p=>p.about.bare) l:=by
 have hB:(bareP l).length≤tot (fun p=>p.about.bare) l:=uni_one _
 unfold barIn
 split
 ·simp
 split
 ·simp
 split
 ·refine Nat.le_trans (uniN_len _) ?_
  have h2:(butN (ptN l 1).about.bare f.nm).length≤(ptN l 1).about.bare.length:=List.length_filter_le ..
  have a0:tot (fun p=>p.about.bare) l=tot (fun p=>p.about.bare) l:=rfl
  simp only [List.flatten_cons,List.flatten_nil,List.append_nil,List.length_append]
  rcases l with _ | ⟨p,_ | ⟨q,l⟩⟩
  ·simp only [ptN,List.getD_eq_getElem?_getD,List.getElem?_nil,Option.getD_none] at h2 ⊢
   simp only [Pt.about,List.length_nil] at h2 ⊢
   omega
  ·rw [tot_cons]
   have e1:(ptN [p] 1).about.bare=[]:=rfl
   have e0:(ptN [p] 0)=p:=rfl
   rw [e1] at h2 ⊢
   rw [e0]
   simp only [List.length_nil] at h2
   omega
  ·rw [tot_cons,tot_cons]
   have e1:ptN (p::q::l) 1=q:=rfl
   have e0:ptN (p::q::l) 0=p:=rfl
   rw [e1] at h2 ⊢
   rw [e0]
   omega
 split
 ·have h2:(butN (bareP l) f.nm).length≤(bareP l).length:=List.length_filter_le ..
  omega
 ·omega
theorem bnd:∀ n:Nat,(∀ (f:Fm) (e:Env),nodF f≤n→wfF f→VB (prtF f e) (nodF f))∧(∀ (r:Rx) (e:Env),nodR r≤n→wfR r→VB (.fx (prtR r e)) (nodR r)):=by
 intro n
 induction n with
 | zero=>exact ⟨fun f e h=>by rw [nodF_eq] at h;omega,fun r e h=>by rw [nodR_eq] at h;omega⟩
 | succ n ih=>
  constructor
  ·intro f e hn hw
   have hw0:=hw
   rw [nodF_eq] at hn
   rw [wfF_eq] at hw
   have hN:=nodF_eq f
   refine ⟨by rw [prtF_eq,mkP_about];exact varF_len hw0, ?_⟩
   rw [prtF_eq,mkP_about]
   refine Nat.le_trans (bar_len f _) ?_
   by_cases h20:f.k=20
   ·rw [if_pos h20]
    cases hs:f.subs with
    | nil=>rw [letF,tot_nil];omega
    | cons g l=>
     rw [hs,nodFs_cons] at hn hN
     obtain ⟨-, -, -,hws⟩:=hw
     rw [hs,wfFs_cons] at hws
     rw [letF,tot_cons]
     have h1:=(ih.1 g e (by omega) hws.1).2
     have h2:=(totF (e:=(f.nm,(prtF g e).about.reach)::e) l (fun x hx=>ih.1 x _ (by have:=nodFs_in x hx;omega) (wfFs_in hws.2 x hx))).2
     show 1+((prtF g e).about.bare.length+_)≤_
     omega
   ·rw [if_neg h20,tot_app]
    have h1:=(totR (e:=if f.k=21 then (f.nm,0)::e else e) f.rgx (fun x hx=>ih.2 x _ (by have:=nodRs_in x hx;omega) (wfRs_in hw.2.2.1 x hx))).2
    have h2:=(totF (e:=if f.k=21 then (f.nm,0)::e else e) f.subs (fun x hx=>ih.1 x _ (by have:=nodFs_in x hx;omega) (wfFs_in hw.2.2.2 x hx))).2
    omega
  ·intro r e hn hw
   rw [nodR_eq] at hn
   rw [wfR_eq] at hw
   have hN:=nodR_eq r
   have h1:=totF (e:=e) r.test (fun x hx=>ih.1 x _ (by have:=nodFs_in x hx;omega) (wfFs_in hw.2.1 x hx))
   have h2:=totR (e:=e) r.subs (fun x hx=>ih.2 x _ (by have:=nodRs_in x hx;omega) (wfRs_in hw.2.2 x hx))
   rw [prtR_eq]
   have hv:(varsP (prtFs r.test e++prtRs r.subs e)).length≤tot (fun p=>p.about.vars) (prtFs r.test e++prtRs r.subs e):=uni_one _
   have hb:(bareP (prtFs r.test e++prtRs r.subs e)).length≤tot (fun p=>p.about.bare) (prtFs r.test e++prtRs r.subs e):=uni_one _
   rw [tot_app] at hv hb
   refine ⟨?_, ?_⟩
   ·show (varsP _).length≤_
    omega
   ·show (bareP _).length≤_
    omega
def ptsE (f:Fm) (e:Env):List Pt:=if f.k=20 then letF f.subs f.nm e else prtRs f.rgx (if f.k=21 then (f.nm,0)::e else e)++prtFs f.subs (if f.k=21 then (f.nm,0)::e else e)
theorem prtF_pts (f:Fm) (e:Env):prtF f e=mkP e f (ptsE f e):=prtF_eq f e
theorem pts_tot {f:Fm} (hw:wfF f) (e:Env):tot (fun p=>p.about.vars) (ptsE f e)≤9*nodF f∧tot (fun p=>p.about.bare) (ptsE f e)≤nodF f:=by
 have hN:=nodF_eq f
 rw [wfF_eq] at hw
 unfold ptsE
 by_cases h20:f.k=20
 ·rw [if_pos h20]
  cases hs:f.subs with
  | nil=>rw [letF,tot_nil,tot_nil];omega
  | cons g l=>
   rw [hs,nodFs_cons] at hN
   obtain ⟨-, -, -,hws⟩:=hw
   rw [hs,wfFs_cons] at hws
   rw [letF,tot_cons,tot_cons]
   have h1:=(bnd _).1 g e (Nat.le_refl _) hws.1
   have h2:=totF (e:=(f.nm,(prtF g e).about.reach)::e) l (fun x hx=>(bnd _).1 x _ (Nat.le_refl _) (wfFs_in hws.2 x hx))
   unfold VB at h1
   omega
 ·rw [if_neg h20,tot_app,tot_app]
  have h1:=totR (e:=if f.k=21 then (f.nm,0)::e else e) f.rgx (fun x hx=>(bnd _).2 x _ (Nat.le_refl _) (wfRs_in hw.2.2.1 x hx))
  have h2:=totF (e:=if f.k=21 then (f.nm,0)::e else e) f.subs (fun x hx=>(bnd _).1 x _ (Nat.le_refl _) (wfFs_in hw.2.2.2 x hx))
  omega
theorem prtFs_len (l:List Fm) (e:Env):(prtFs l e).length=l.length:=by rw [prtFs_map,List.length_map]
theorem prtRs_len (l:List Rx) (e:Env):(prtRs l e).length=l.length:=by rw [prtRs_map,List.length_map]
theorem pts_len (f:Fm) (e:Env):(ptsE f e).length=(if f.k=20 then f.subs.length else f.rgx.length+f.subs.length):=by
 unfold ptsE
 by_cases h20:f.k=20
 ·rw [if_pos h20,if_pos h20]
  cases hs:f.subs with
  | nil=>rw [letF];rfl
  | cons g l=>rw [letF,List.length_cons,prtFs_len,List.length_cons]
 ·rw [if_neg h20,if_neg h20,List.length_append,prtRs_len,prtFs_len]
theorem pts_n {f:Fm} (hw:wfF f) (e:Env):PtsN f (ptsE f e):=by
 rw [wfF_eq] at hw
 obtain ⟨-, -,ht,hs,hr⟩:=fm_forms hw.1
 have hl:=pts_len f e
 refine ⟨fun h=> ?_,fun h=> ?_,fun h=> ?_⟩
 ·rcases h with h | h | h | h | h<;>rw [h] at hs hr hl<;>simp [frm] at hs hr hl<;>omega
 ·rcases h with h | h | h | h | h | h<;>rw [h] at hs hr hl<;>simp [frm] at hs hr hl<;>omega
 ·rcases h with h | h | h<;>rw [h] at ht<;>simp [frm] at ht<;>omega
theorem nameB_sz {s:ByteArray} (h:nameB s=true):s.size≤281474976710656:=by have:=nameB_size h;omega
theorem tm_bnd {ts:List Tm} (hw:wfTs ts) (hn:nodTs ts≤1000000):∀ t∈ts,TmB t:=by
 intro t ht
 have hsub:∀ (l:List Tm),t∈l→∀ x∈tvs t,x∈tvss l:=by
  intro l
  induction l with
  | nil=>intro h;cases h
  | cons y l ih=>
   intro h x hx
   rw [tvss_cons]
   rcases List.mem_cons.1 h with rfl | h
   ·exact List.mem_append_left _ hx
   ·exact List.mem_append_right _ (ih h x hx)
 have hlen:∀ (l:List Tm),t∈l→(tvs t).length≤(tvss l).length:=by
  intro l
  induction l with
  | nil=>intro h;cases h
  | cons y l ih=>
   intro h
   rw [tvss_cons,List.length_append]
   rcases List.mem_cons.1 h with rfl | h
   ·omega
   ·have:=ih h;omega
 have h1:=hlen ts ht
 have h2:=tvss_nod _ ts (Nat.le_refl _)
 refine ⟨by omega,fun s hs=> ?_⟩
 have h3:=((uni_up [tvs t]).2 s).1 hs
 simp only [List.flatten_cons,List.flatten_nil,List.append_nil] at h3
 exact nameB_sz (tvss_names _ ts (Nat.le_refl _) hw s (hsub ts ht s h3))
end Go.Proofs.YthodedagbbifbaaGreat
namespace Go.Proofs.YthodedagbbifbaaGreat
open Go.RowKit LX Go.Shelf Go.Sort
set_option linter.unusedVariables false
theorem parts_else (w0:World) (f:Fm) (q:FQ) (e E1:Env) (pe:Option Addr) (w:World) (hk:f.k≠20) (hk21:f.k≠21) (eE:E1=(if f.k=21 then (f.nm,0)::e else e)) (hq:QAt w0 (f,q)) (hw:Below w0.heap.size w0 w) (hE:EnvAt w pe e) (hls:f.subs.length≤1000000) (hlr:f.rgx.length≤1000000)
  (HF:∀ i (hi:i<f.subs.length) (qg:FQ) (pe':Option Addr) (W:World),QAt w0 (f.subs[i],qg)→Below w0.heap.size w0 W→EnvAt W pe' E1→Calls Tryz.prog 27 #[.pointer pe',.agg #[.int .i64 f.subs[i].k,.string f.subs[i].nm,.int .i64 f.subs[i].op,qg.v,qg.t,.int .i64 f.subs[i].lo,.int .i64 f.subs[i].hi,.bool f.subs[i].opn,qg.s,qg.r]] W fun r w'=>∃ v,r=.returned v∧PtT w0.heap.size w' v (prtF f.subs[i] E1)∧Below W.heap.size W w')
  (HR:∀ i (hi:i<f.rgx.length) (ut us:Value) (pe':Option Addr) (W:World),FmsAt w0 ut f.rgx[i].test→RxsAt w0 us f.rgx[i].subs→Below w0.heap.size w0 W→EnvAt W pe' E1→Calls Tryz.prog 81 #[.pointer pe',.agg #[.int .i64 f.rgx[i].k,ut,us]] W fun r w'=>∃ v,r=.returned v∧PtT w0.heap.size w' (.iface 48 v) (.fx (prtR f.rgx[i] E1))∧Below W.heap.size W w'):
  Calls Tryz.prog 49 #[.pointer pe,.agg #[.int .i64 f.k,.string f.nm,.int .i64 f.op,q.v,q.t,.int .i64 f.lo,.int .i64 f.hi,.bool f.opn,q.s,q.r]] w fun r w'=>∃ v,r=.returned v∧RowP w0.heap.size w.heap.size v (ptsE f e) w'∧Below w.heap.size w w':=by
 obtain ⟨i0,hi_,hz0,hz1,hz2⟩:=info_parts inPart
 have HFH:Hid (∀ i (hi:i<f.subs.length) (qg:FQ) (pe':Option Addr) (W:World),QAt w0 (f.subs[i],qg)→Below w0.heap.size w0 W→EnvAt W pe' E1→Calls Tryz.prog 27 #[.pointer pe',.agg #[.int .i64 f.subs[i].k,.string f.subs[i].nm,.int .i64 f.subs[i].op,qg.v,qg.t,.int .i64 f.subs[i].lo,.int .i64 f.subs[i].hi,.bool f.subs[i].opn,qg.s,qg.r]] W fun r w'=>∃ v,r=.returned v∧PtT w0.heap.size w' v (prtF f.subs[i] E1)∧Below W.heap.size W w'):=HF
 have HRH:Hid (∀ i (hi:i<f.rgx.length) (ut us:Value) (pe':Option Addr) (W:World),FmsAt w0 ut f.rgx[i].test→RxsAt w0 us f.rgx[i].subs→Below w0.heap.size w0 W→EnvAt W pe' E1→Calls Tryz.prog 81 #[.pointer pe',.agg #[.int .i64 f.rgx[i].k,ut,us]] W fun r w'=>∃ v,r=.returned v∧PtT w0.heap.size w' (.iface 48 v) (.fx (prtR f.rgx[i] E1))∧Below W.heap.size W w'):=HR
 have eP:Hid (ptsE f e=prtRs f.rgx E1++prtFs f.subs E1):=by show _=_;unfold ptsE;rw [if_neg hk,eE]
 obtain ⟨PP,ePP⟩:∃ PP,Hid (ptsE f e=PP):=⟨_,rfl⟩
 rw [ePP.out]
 have hPP:Hid (PP=prtRs f.rgx E1++prtFs f.subs E1):=ePP.out.symm.trans eP.out
 have hqs:=hq.2.2.1
 have hqr:=hq.2.2.2
 simp only at hqs hqr
 obtain ⟨⟨pv,cv,ev⟩,⟨pt,ct,et⟩, -⟩:=sfm_forms hq
 obtain ⟨ps_,cs,es,hsl,hsc,HXS0⟩:=hqs.form
 obtain ⟨pr,cr,er,hrl,hrc,HXR0⟩:=hqr.form
 have HXS:Hid (∀ i (hi:i<f.subs.length),∃ b off uv ut us ur,ps_=some ⟨b,off,none⟩∧b<w0.heap.size∧FmC w0 b (off+i*10) f.subs[i] uv ut us ur∧NmsAt w0 uv f.subs[i].vars∧TmsAt w0 ut f.subs[i].terms∧FmsAt w0 us f.subs[i].subs∧RxsAt w0 ur f.subs[i].rgx):=HXS0
 have HXR:Hid (∀ i (hi:i<f.rgx.length),∃ b off ut us,pr=some ⟨b,off,none⟩∧b<w0.heap.size∧RxC w0 b (off+i*3) f.rgx[i] ut us∧FmsAt w0 ut f.rgx[i].test∧RxsAt w0 us f.rgx[i].subs):=HXR0
 rw [ev,et,es,er]
 have hzw:=hw.size
 have hzw0:=hw.size
 obtain ⟨ns,ens⟩:∃ ns:Nat,Hid (f.subs.length=ns):=⟨_,rfl⟩
 obtain ⟨nr,enr⟩:∃ nr:Nat,Hid (f.rgx.length=nr):=⟨_,rfl⟩
 rw [ens.out] at hls hsl hsc ⊢
 rw [enr.out] at hlr hrl hrc ⊢
 have HE:Hid (EnvAt w pe e):=hE
 have HEE:Hid (E1=(if f.k=21 then (f.nm,0)::e else e)):=eE
 clear hq HF HR ePP eP hqs hqr HXS0 HXR0 ev et es er hE eE
 generalize f.vars.length=nv at*
 generalize f.terms.length=nt at*
 generalize f.nm=nm at*
 generalize f.op=op at*
 generalize f.lo=lo at*
 generalize f.hi=hi at*
 generalize f.opn=o at*
 generalize f.k=k at*
 have hk':(k==20)=false:=by simpa using hk
 have hk2':(k==21)=false:=by simpa using hk21
 go_enter Tryz.func49,Tryz.ntmps49
 go_upto_region 7 with fail
 refine wp_world ?_
 intro W0 hW0
 have KW0:Below w.heap.size w W0:=by rw [hW0];go_grown
 have LW0:w.heap.size<W0.heap.size:=by rw [hW0];first | (simp;done) | (simp;omega)
 have q8:W0.cell? ⟨w.heap.size,8,none⟩=some (.slice ps_ ns cs):=by rw [hW0];simp (maxDischargeDepth:=12) [go_sem]
 have q9:W0.cell? ⟨w.heap.size,9,none⟩=some (.slice pr nr cr):=by rw [hW0];simp (maxDischargeDepth:=12) [go_sem]
 have HEW:Hid (EnvAt W0 pe E1):=by
  have h:=HEE.out
  rw [if_neg hk21] at h
  rw [h]
  exact HE.out.bel KW0
 clear hW0 HE HEE
 clear hk hk21
 have hzW:=KW0.size
 obtain ⟨A,eA⟩:∃ A,Hid (prtRs f.rgx E1=A):=⟨_,rfl⟩
 obtain ⟨D,eD⟩:∃ D,Hid (prtFs f.subs E1=D):=⟨_,rfl⟩
 rw [eA.out,eD.out] at hPP
 have lA:Hid (A.length=nr):=by show _=_;rw [← eA.out,prtRs_len,enr.out]
 have lD:Hid (D.length=ns):=by show _=_;rw [← eD.out,prtFs_len,ens.out]
 have gA:Hid (∀ i (hi:i<A.length) (hi':i<f.rgx.length),A[i]=.fx (prtR f.rgx[i] E1)):=fun i hi hi'=>by
  have h:=eA.out
  rw [prtRs_map] at h
  subst h
  rw [List.getElem_map]
 have gD:Hid (∀ i (hi:i<D.length) (hi':i<f.subs.length),D[i]=prtF f.subs[i] E1):=fun i hi hi'=>by
  have h:=eD.out
  rw [prtFs_map] at h
  subst h
  rw [List.getElem_map]
 clear eA eD
 go_wp2
 go_loopw [6,46] (fun v6 v46 wr=>∃ k:Nat,k≤nr∧v46=.int .i64 k∧Hid (RowP w0.heap.size W0.heap.size v6 (A.take k) wr)∧Below W0.heap.size W0 wr) (fun _ v46 _=>nr - (intOf v46).toNat)
 case atStart=>exact ⟨0,Nat.zero_le _,rfl,RowP.nil _ _ _,Below.refl _ _⟩
 case round=>
  obtain ⟨k1,hk1,rfl,hRo,hB⟩:=hrel
  have hzr:=hB.size
  by_cases hlt:k1<nr
  case pos=>
   have kx:k1<f.rgx.length:=by have:=enr.out;omega
   have ky:k1<A.length:=by have:=lA.out;omega
   have hlt':(k1:Int)<nr:=by omega
   obtain ⟨b,off,ut,us,hp,hb,RC,hT,hS⟩:=HXR.out k1 kx
   subst hp
   have hwr:Below w0.heap.size w0 wr:=(hw.trans (KW0.mono hzw0)).trans (hB.mono (by omega))
   obtain ⟨a0,a1,a2⟩:=RC.below hwr hb
   obtain ⟨pt1,ct1,rfl, -⟩:=hT.form
   obtain ⟨pu1,cu1,rfl, -⟩:=hS.form
   have hAk:=gA.out k1 ky kx
   have cR:Hid (∀ W:World,Below wr.heap.size wr W→Calls Tryz.prog 81 #[.pointer pe,.agg #[.int .i64 f.rgx[k1].k,.slice pt1 f.rgx[k1].test.length ct1,.slice pu1 f.rgx[k1].subs.length cu1]] W fun r w'=>∃ v,r=.returned v∧PtT w0.heap.size w' (.iface 48 v) A[k1]∧Below W.heap.size W w'):=fun W hW=>by
    rw [hAk]
    exact HRH.out k1 kx _ _ _ W hT hS (hwr.trans (hW.mono hwr.size)) (HEW.out.bel (hB.trans (hW.mono hzr)))
   have hTK:Hid (A.take (k1+1)=A.take k1++[A[k1]]):=List.take_succ_eq_append_getElem ky
   obtain ⟨us0,hO0,hl0,hP0⟩:=hRo.out
   have hl1:us0.length≤1000000:=by rw [hl0,List.length_take];omega
   clear RC hT hS hAk hRo
   generalize f.rgx[k1].k=rk at*
   generalize f.rgx[k1].test.length=nt1 at*
   generalize f.rgx[k1].subs.length=nu1 at*
   go_wp2_with fail
   refine (cR.out _ (by go_grown)).mono ?_
   rintro r1 w4 ⟨v4,rfl,hP4,hb4⟩
   have hB4:Below wr.heap.size wr w4:=Below.trans (by go_grown) (hb4.mono (by simp))
   obtain ⟨x4,e4⟩:∃ pv4 nv4 cv4 a4 r4 pb4 nb4 cb4,v4=.agg #[.slice pv4 nv4 cv4,.bool a4,.int .i64 r4,.slice pb4 nb4 cb4]:=by
    have h:=hP4.pt
    generalize A[k1]=PA at h
    generalize hu:Value.iface 48 v4=u4 at h
    cases h with
    | fx h1 h2=>
     obtain ⟨p1,c1,rfl, -⟩:=h1.form
     obtain ⟨p2,c2,rfl, -⟩:=h2.form
     injection hu with _ hu
     exact ⟨_,_,_,_,_,_,_,_,hu⟩
    | neg h1 h2 h3=>injection hu with hu;exact absurd hu (by decide)
    | cmp h1 h2 h3 h4 h5 h6=>injection hu with hu;exact absurd hu (by decide)
   obtain ⟨nv4,cv4,a4,r4,pb4,nb4,cb4,rfl⟩:=e4
   have hOw:Hid (OwnP W0.heap.size u6 us0 w4):=hO0.bel hB4
   have HP4:Hid (PtT w0.heap.size w4 (.iface 48 (.agg #[.slice x4 nv4 cv4,.bool a4,.int .i64 r4,.slice pb4 nb4 cb4])) A[k1]):=hP4
   have HP0:Hid (∀ i (hi:i<us0.length) (hi':i<(A.take k1).length),PtT w0.heap.size w4 us0[i] (A.take k1)[i]):=fun i hi hi'=>(hP0 i hi hi').bel hB4
   have HL0:Hid (us0.length=(A.take k1).length):=hl0
   have HK:Hid (∀ q,u6.ownBlock=some q→W0.heap.size≤q):=fun q hq=>(hOw.out.row q hq).1
   have hz4:W0.heap.size≤w4.heap.size:=by have:=hB4.size;omega
   have hB5:Below W0.heap.size W0 w4:=hB.trans (hB4.mono hzr)
   clear hb4 cR a0 a1 a2 hP4 hO0 hP0 hl0
   go_wp2_with (at_builtin;refine wpList_append_own _ rfl _ _ 89 rfl W0.heap.size 55 i0 .nilIface 1 16 Tryz.underlying89 hi_ hz0 hz1 hz2 rfl (by decide) _ _ _ rfl (World.ownsRow.alloc hOw.out _) ⟨w4.heap.size,0,none⟩ 1 1 [.iface 48 (.agg #[.slice x4 nv4 cv4,.bool a4,.int .i64 r4,.slice pb4 nb4 cb4])] rfl rfl ?ca1 ?ca2 ?ca3 ?ca4 ?ca5 ?_)
   case ca1=>(intro j u hj;rw [Addr.add_lit];(rcases j with _ | j)<;>simp at hj<;>subst hj<;>simp (maxDischargeDepth:=12) [go_sem])
   case ca2=>first | rfl | (intro u hu;simp at hu;subst hu;rfl)
   case ca3=>unfold maxLen;omega
   case ca4=>omega
   case ca5=>first | omega | (simp;omega)
   intro v' w5 h2 h3 _
   have R5:Hid (RowP w0.heap.size W0.heap.size v' (A.take (k1+1)) w5):=by
    show RowP _ _ _ _ _
    rw [hTK.out]
    exact RowP.step hOw.out (by omega) HL0.out HP0.out HP4.out h2 h3
   have B5:Below W0.heap.size W0 w5:=Below.grown (hB5.alloc hz4 _) h3 (by simp;omega) HK.out
   clear h2 h3 hOw HP4 HP0 HL0 HK hB5
   go_wp2
   exact ⟨⟨k1+1,by omega,by go_num,R5,B5⟩,by simp [intOf];omega⟩
  case neg=>
   have c2:¬ (k1:Int)<nr:=by omega
   have hR1:Hid (RowP w0.heap.size W0.heap.size u6 A wr):=by
    have h:=hRo.out
    rwa [List.take_of_length_le (by have:=lA.out;omega)] at h
   have q8r:wr.cell? ⟨w.heap.size,8,none⟩=some (.slice ps_ ns cs):=(hB.cell (p:=⟨w.heap.size,8,none⟩) LW0).trans q8
   clear hRo HXR HRH gA
   go_wp2
   go_loopw [6,61] (fun v6 v61 wx=>∃ k:Nat,k≤ns∧v61=.int .i64 k∧Hid (RowP w0.heap.size W0.heap.size v6 (A++D.take k) wx)∧Below W0.heap.size W0 wx) (fun _ v61 _=>ns - (intOf v61).toNat)
   case atStart=>exact ⟨0,Nat.zero_le _,rfl,(by show RowP _ _ _ _ _;rw [List.take_zero,List.append_nil];exact hR1.out),hB⟩
   case round=>
    obtain ⟨k1,hk1,rfl,hRo,hB⟩:=hrel
    have hzr:=hB.size
    by_cases hlt:k1<ns
    case pos=>
     have kx:k1<f.subs.length:=by have:=ens.out;omega
     have ky:k1<D.length:=by have:=lD.out;omega
     have hlt':(k1:Int)<ns:=by omega
     obtain ⟨b,off,uv,ut,us,ur,hp,hb,FC,hV,hT,hS,hG⟩:=HXS.out k1 kx
     subst hp
     have hwr:Below w0.heap.size w0 wr:=(hw.trans (KW0.mono hzw0)).trans (hB.mono (by omega))
     obtain ⟨a0,a1,a2,a3,a4,a5,a6,a7,a8,a9⟩:=FC.below hwr hb
     have hQ:QAt w0 (f.subs[k1],(⟨uv,ut,us,ur⟩:FQ)):=⟨hV,hT,hS,hG⟩
     obtain ⟨pv1,cv1,rfl, -⟩:=hV.form
     obtain ⟨pt1,ct1,rfl, -⟩:=hT.form
     obtain ⟨pu1,cu1,rfl, -⟩:=hS.form
     obtain ⟨pg1,cg1,rfl, -⟩:=hG.form
     have hDk:=gD.out k1 ky kx
     have cF:Hid (∀ W:World,Below wr.heap.size wr W→Calls Tryz.prog 27 #[.pointer pe,.agg #[.int .i64 f.subs[k1].k,.string f.subs[k1].nm,.int .i64 f.subs[k1].op,.slice pv1 f.subs[k1].vars.length cv1,.slice pt1 f.subs[k1].terms.length ct1,.int .i64 f.subs[k1].lo,.int .i64 f.subs[k1].hi,.bool f.subs[k1].opn,.slice pu1 f.subs[k1].subs.length cu1,.slice pg1 f.subs[k1].rgx.length cg1]] W fun r w'=>∃ v,r=.returned v∧PtT w0.heap.size w' v D[k1]∧Below W.heap.size W w'):=fun W hW=>by
      rw [hDk]
      exact HFH.out k1 kx (⟨.slice pv1 f.subs[k1].vars.length cv1,.slice pt1 f.subs[k1].terms.length ct1,.slice pu1 f.subs[k1].subs.length cu1,.slice pg1 f.subs[k1].rgx.length cg1⟩:FQ) _ W hQ (hwr.trans (hW.mono hwr.size)) (HEW.out.bel (hB.trans (hW.mono hzr)))
     have hTK:Hid (A++D.take (k1+1)=A++D.take k1++[D[k1]]):=by show _=_;rw [List.take_succ_eq_append_getElem ky,List.append_assoc]
     obtain ⟨us0,hO0,hl0,hP0⟩:=hRo.out
     have hl1:us0.length≤2000000:=by rw [hl0,List.length_append,List.length_take];have:=lA.out;omega
     clear FC hV hT hS hG hQ hDk hRo
     generalize f.subs[k1].k=xk at*
     generalize f.subs[k1].nm=xnm at*
     generalize f.subs[k1].op=xop at*
     generalize f.subs[k1].vars.length=xnv at*
     generalize f.subs[k1].terms.length=xnt at*
     generalize f.subs[k1].lo=xlo at*
     generalize f.subs[k1].hi=xhi at*
     generalize f.subs[k1].opn=xo at*
     generalize f.subs[k1].subs.length=xns at*
     generalize f.subs[k1].rgx.length=xnr at*
     go_wp2_with fail
     refine (cF.out _ (by go_grown)).mono ?_
     rintro r1 w4 ⟨v4,rfl,hP4,hb4⟩
     have hB4:Below wr.heap.size wr w4:=Below.trans (by go_grown) (hb4.mono (by simp))
     obtain ⟨TT,vv,rfl⟩:=hP4.pt.lens
     have hOw:Hid (OwnP W0.heap.size u6 us0 w4):=hO0.bel hB4
     have HP4:Hid (PtT w0.heap.size w4 (.iface TT vv) D[k1]):=hP4
     have HP0:Hid (∀ i (hi:i<us0.length) (hi':i<(A++D.take k1).length),PtT w0.heap.size w4 us0[i] (A++D.take k1)[i]):=fun i hi hi'=>(hP0 i hi hi').bel hB4
     have HL0:Hid (us0.length=(A++D.take k1).length):=hl0
     have HK:Hid (∀ q,u6.ownBlock=some q→W0.heap.size≤q):=fun q hq=>(hOw.out.row q hq).1
     have hz4:W0.heap.size≤w4.heap.size:=by have:=hB4.size;omega
     have hB5:Below W0.heap.size W0 w4:=hB.trans (hB4.mono hzr)
     clear hb4 cF a0 a1 a2 a3 a4 a5 a6 a7 a8 a9 hP4 hO0 hP0 hl0
     go_wp2_with (at_builtin;refine wpList_append_own _ rfl _ _ 89 rfl W0.heap.size 55 i0 .nilIface 1 16 Tryz.underlying89 hi_ hz0 hz1 hz2 rfl (by decide) _ _ _ rfl (World.ownsRow.alloc hOw.out _) ⟨w4.heap.size,0,none⟩ 1 1 [.iface TT vv] rfl rfl ?cb1 ?cb2 ?cb3 ?cb4 ?cb5 ?_)
     case cb1=>(intro j u hj;rw [Addr.add_lit];(rcases j with _ | j)<;>simp at hj<;>subst hj<;>simp (maxDischargeDepth:=12) [go_sem])
     case cb2=>first | rfl | (intro u hu;simp at hu;subst hu;rfl)
     case cb3=>unfold maxLen;omega
     case cb4=>omega
     case cb5=>first | omega | (simp;omega)
     intro v' w5 h2 h3 _
     have R5:Hid (RowP w0.heap.size W0.heap.size v' (A++D.take (k1+1)) w5):=by
      show RowP _ _ _ _ _
      rw [hTK.out]
      exact RowP.step hOw.out (by omega) HL0.out HP0.out HP4.out h2 h3
     have B5:Below W0.heap.size W0 w5:=Below.grown (hB5.alloc hz4 _) h3 (by simp;omega) HK.out
     clear h2 h3 hOw HP4 HP0 HL0 HK hB5
     go_wp2
     exact ⟨⟨k1+1,by omega,by go_num,R5,B5⟩,by simp [intOf];omega⟩
    case neg=>
     have c3:¬ (k1:Int)<ns:=by omega
     have hR2:Hid (RowP w0.heap.size w.heap.size u6 PP wr):=by
      have h:=hRo.out
      rw [List.take_of_length_le (by have:=lD.out;omega),← hPP.out] at h
      obtain ⟨us9,h1,h2,h3⟩:=h
      exact ⟨us9,own_monoB h1 hzW,h2,h3⟩
     clear hRo
     go_wp2
     go_ret
     exact ⟨_,rfl,hR2.out,KW0.trans (hB.mono hzW)⟩
theorem parts_past (w0:World) (f:Fm) (q:FQ) (e E1:Env) (pe:Option Addr) (w:World) (hk21:f.k=21) (eE:E1=(if f.k=21 then (f.nm,0)::e else e)) (hq:QAt w0 (f,q)) (hw:Below w0.heap.size w0 w) (hE:EnvAt w pe e) (hls:f.subs.length≤1000000) (hlr:f.rgx.length≤1000000)
  (HF:∀ i (hi:i<f.subs.length) (qg:FQ) (pe':Option Addr) (W:World),QAt w0 (f.subs[i],qg)→Below w0.heap.size w0 W→EnvAt W pe' E1→Calls Tryz.prog 27 #[.pointer pe',.agg #[.int .i64 f.subs[i].k,.string f.subs[i].nm,.int .i64 f.subs[i].op,qg.v,qg.t,.int .i64 f.subs[i].lo,.int .i64 f.subs[i].hi,.bool f.subs[i].opn,qg.s,qg.r]] W fun r w'=>∃ v,r=.returned v∧PtT w0.heap.size w' v (prtF f.subs[i] E1)∧Below W.heap.size W w')
  (HR:∀ i (hi:i<f.rgx.length) (ut us:Value) (pe':Option Addr) (W:World),FmsAt w0 ut f.rgx[i].test→RxsAt w0 us f.rgx[i].subs→Below w0.heap.size w0 W→EnvAt W pe' E1→Calls Tryz.prog 81 #[.pointer pe',.agg #[.int .i64 f.rgx[i].k,ut,us]] W fun r w'=>∃ v,r=.returned v∧PtT w0.heap.size w' (.iface 48 v) (.fx (prtR f.rgx[i] E1))∧Below W.heap.size W w'):
  Calls Tryz.prog 49 #[.pointer pe,.agg #[.int .i64 f.k,.string f.nm,.int .i64 f.op,q.v,q.t,.int .i64 f.lo,.int .i64 f.hi,.bool f.opn,q.s,q.r]] w fun r w'=>∃ v,r=.returned v∧RowP w0.heap.size w.heap.size v (ptsE f e) w'∧Below w.heap.size w w':=by
 obtain ⟨i0,hi_,hz0,hz1,hz2⟩:=info_parts inPart
 have HFH:Hid (∀ i (hi:i<f.subs.length) (qg:FQ) (pe':Option Addr) (W:World),QAt w0 (f.subs[i],qg)→Below w0.heap.size w0 W→EnvAt W pe' E1→Calls Tryz.prog 27 #[.pointer pe',.agg #[.int .i64 f.subs[i].k,.string f.subs[i].nm,.int .i64 f.subs[i].op,qg.v,qg.t,.int .i64 f.subs[i].lo,.int .i64 f.subs[i].hi,.bool f.subs[i].opn,qg.s,qg.r]] W fun r w'=>∃ v,r=.returned v∧PtT w0.heap.size w' v (prtF f.subs[i] E1)∧Below W.heap.size W w'):=HF
 have HRH:Hid (∀ i (hi:i<f.rgx.length) (ut us:Value) (pe':Option Addr) (W:World),FmsAt w0 ut f.rgx[i].test→RxsAt w0 us f.rgx[i].subs→Below w0.heap.size w0 W→EnvAt W pe' E1→Calls Tryz.prog 81 #[.pointer pe',.agg #[.int .i64 f.rgx[i].k,ut,us]] W fun r w'=>∃ v,r=.returned v∧PtT w0.heap.size w' (.iface 48 v) (.fx (prtR f.rgx[i] E1))∧Below W.heap.size W w'):=HR
 have eP:Hid (ptsE f e=prtRs f.rgx E1++prtFs f.subs E1):=by show _=_;unfold ptsE;rw [if_neg (by omega),eE]
 obtain ⟨PP,ePP⟩:∃ PP,Hid (ptsE f e=PP):=⟨_,rfl⟩
 rw [ePP.out]
 have hPP:Hid (PP=prtRs f.rgx E1++prtFs f.subs E1):=ePP.out.symm.trans eP.out
 have hqs:=hq.2.2.1
 have hqr:=hq.2.2.2
 simp only at hqs hqr
 obtain ⟨⟨pv,cv,ev⟩,⟨pt,ct,et⟩, -⟩:=sfm_forms hq
 obtain ⟨ps_,cs,es,hsl,hsc,HXS0⟩:=hqs.form
 obtain ⟨pr,cr,er,hrl,hrc,HXR0⟩:=hqr.form
 have HXS:Hid (∀ i (hi:i<f.subs.length),∃ b off uv ut us ur,ps_=some ⟨b,off,none⟩∧b<w0.heap.size∧FmC w0 b (off+i*10) f.subs[i] uv ut us ur∧NmsAt w0 uv f.subs[i].vars∧TmsAt w0 ut f.subs[i].terms∧FmsAt w0 us f.subs[i].subs∧RxsAt w0 ur f.subs[i].rgx):=HXS0
 have HXR:Hid (∀ i (hi:i<f.rgx.length),∃ b off ut us,pr=some ⟨b,off,none⟩∧b<w0.heap.size∧RxC w0 b (off+i*3) f.rgx[i] ut us∧FmsAt w0 ut f.rgx[i].test∧RxsAt w0 us f.rgx[i].subs):=HXR0
 rw [ev,et,es,er]
 have hzw:=hw.size
 have hzw0:=hw.size
 obtain ⟨ns,ens⟩:∃ ns:Nat,Hid (f.subs.length=ns):=⟨_,rfl⟩
 obtain ⟨nr,enr⟩:∃ nr:Nat,Hid (f.rgx.length=nr):=⟨_,rfl⟩
 rw [ens.out] at hls hsl hsc ⊢
 rw [enr.out] at hlr hrl hrc ⊢
 have HE:Hid (EnvAt w pe e):=hE
 have HEE:Hid (E1=(if f.k=21 then (f.nm,0)::e else e)):=eE
 clear hq HF HR ePP eP hqs hqr HXS0 HXR0 ev et es er hE eE
 generalize f.vars.length=nv at*
 generalize f.terms.length=nt at*
 generalize f.nm=nm at*
 generalize f.op=op at*
 generalize f.lo=lo at*
 generalize f.hi=hi at*
 generalize f.opn=o at*
 rw [hk21]
 go_enter Tryz.func49,Tryz.ntmps49
 go_upto_region 7 with fail
 refine wp_world ?_
 intro W0 hW0
 have KW0:Below w.heap.size w W0:=by rw [hW0];go_grown
 have LW0:w.heap.size<W0.heap.size:=by rw [hW0];first | (simp;done) | (simp;omega)
 have q8:W0.cell? ⟨w.heap.size,8,none⟩=some (.slice ps_ ns cs):=by rw [hW0];simp (maxDischargeDepth:=12) [go_sem]
 have q9:W0.cell? ⟨w.heap.size,9,none⟩=some (.slice pr nr cr):=by rw [hW0];simp (maxDischargeDepth:=12) [go_sem]
 have c0:W0.cell? ⟨w.heap.size+1,0,none⟩=some (.string nm):=by rw [hW0];simp (maxDischargeDepth:=12) [go_sem]
 have c1:W0.cell? ⟨w.heap.size+1,1,none⟩=some (.int .i64 0):=by rw [hW0];simp (maxDischargeDepth:=12) [go_sem]
 have c2_:W0.cell? ⟨w.heap.size+1,2,none⟩=some (.pointer pe):=by rw [hW0];simp (maxDischargeDepth:=12) [go_sem]
 have cl:w.heap.size+1<W0.heap.size:=by rw [hW0];simp
 have HEW:Hid (EnvAt W0 (some ⟨w.heap.size+1,0,none⟩) E1):=by
  have h:=HEE.out
  rw [if_pos hk21] at h
  rw [h]
  exact .cons cl c0 c1 c2_ (HE.out.bel KW0)
 clear c0 c1 c2_ cl
 clear hW0 HE HEE
 have hzW:=KW0.size
 obtain ⟨A,eA⟩:∃ A,Hid (prtRs f.rgx E1=A):=⟨_,rfl⟩
 obtain ⟨D,eD⟩:∃ D,Hid (prtFs f.subs E1=D):=⟨_,rfl⟩
 rw [eA.out,eD.out] at hPP
 have lA:Hid (A.length=nr):=by show _=_;rw [← eA.out,prtRs_len,enr.out]
 have lD:Hid (D.length=ns):=by show _=_;rw [← eD.out,prtFs_len,ens.out]
 have gA:Hid (∀ i (hi:i<A.length) (hi':i<f.rgx.length),A[i]=.fx (prtR f.rgx[i] E1)):=fun i hi hi'=>by
  have h:=eA.out
  rw [prtRs_map] at h
  subst h
  rw [List.getElem_map]
 have gD:Hid (∀ i (hi:i<D.length) (hi':i<f.subs.length),D[i]=prtF f.subs[i] E1):=fun i hi hi'=>by
  have h:=eD.out
  rw [prtFs_map] at h
  subst h
  rw [List.getElem_map]
 clear eA eD
 go_wp2
 go_loopw [6,46] (fun v6 v46 wr=>∃ k:Nat,k≤nr∧v46=.int .i64 k∧Hid (RowP w0.heap.size W0.heap.size v6 (A.take k) wr)∧Below W0.heap.size W0 wr) (fun _ v46 _=>nr - (intOf v46).toNat)
 case atStart=>exact ⟨0,Nat.zero_le _,rfl,RowP.nil _ _ _,Below.refl _ _⟩
 case round=>
  obtain ⟨k1,hk1,rfl,hRo,hB⟩:=hrel
  have hzr:=hB.size
  by_cases hlt:k1<nr
  case pos=>
   have kx:k1<f.rgx.length:=by have:=enr.out;omega
   have ky:k1<A.length:=by have:=lA.out;omega
   have hlt':(k1:Int)<nr:=by omega
   obtain ⟨b,off,ut,us,hp,hb,RC,hT,hS⟩:=HXR.out k1 kx
   subst hp
   have hwr:Below w0.heap.size w0 wr:=(hw.trans (KW0.mono hzw0)).trans (hB.mono (by omega))
   obtain ⟨a0,a1,a2⟩:=RC.below hwr hb
   obtain ⟨pt1,ct1,rfl, -⟩:=hT.form
   obtain ⟨pu1,cu1,rfl, -⟩:=hS.form
   have hAk:=gA.out k1 ky kx
   have cR:Hid (∀ W:World,Below wr.heap.size wr W→Calls Tryz.prog 81 #[.pointer (some ⟨w.heap.size+1,0,none⟩),.agg #[.int .i64 f.rgx[k1].k,.slice pt1 f.rgx[k1].test.length ct1,.slice pu1 f.rgx[k1].subs.length cu1]] W fun r w'=>∃ v,r=.returned v∧PtT w0.heap.size w' (.iface 48 v) A[k1]∧Below W.heap.size W w'):=fun W hW=>by
    rw [hAk]
    exact HRH.out k1 kx _ _ _ W hT hS (hwr.trans (hW.mono hwr.size)) (HEW.out.bel (hB.trans (hW.mono hzr)))
   have hTK:Hid (A.take (k1+1)=A.take k1++[A[k1]]):=List.take_succ_eq_append_getElem ky
   obtain ⟨us0,hO0,hl0,hP0⟩:=hRo.out
   have hl1:us0.length≤1000000:=by rw [hl0,List.length_take];omega
   clear RC hT hS hAk hRo
   generalize f.rgx[k1].k=rk at*
   generalize f.rgx[k1].test.length=nt1 at*
   generalize f.rgx[k1].subs.length=nu1 at*
   go_wp2_with fail
   refine (cR.out _ (by go_grown)).mono ?_
   rintro r1 w4 ⟨v4,rfl,hP4,hb4⟩
   have hB4:Below wr.heap.size wr w4:=Below.trans (by go_grown) (hb4.mono (by simp))
   obtain ⟨x4,e4⟩:∃ pv4 nv4 cv4 a4 r4 pb4 nb4 cb4,v4=.agg #[.slice pv4 nv4 cv4,.bool a4,.int .i64 r4,.slice pb4 nb4 cb4]:=by
    have h:=hP4.pt
    generalize A[k1]=PA at h
    generalize hu:Value.iface 48 v4=u4 at h
    cases h with
    | fx h1 h2=>
     obtain ⟨p1,c1,rfl, -⟩:=h1.form
     obtain ⟨p2,c2,rfl, -⟩:=h2.form
     injection hu with _ hu
     exact ⟨_,_,_,_,_,_,_,_,hu⟩
    | neg h1 h2 h3=>injection hu with hu;exact absurd hu (by decide)
    | cmp h1 h2 h3 h4 h5 h6=>injection hu with hu;exact absurd hu (by decide)
   obtain ⟨nv4,cv4,a4,r4,pb4,nb4,cb4,rfl⟩:=e4
   have hOw:Hid (OwnP W0.heap.size u6 us0 w4):=hO0.bel hB4
   have HP4:Hid (PtT w0.heap.size w4 (.iface 48 (.agg #[.slice x4 nv4 cv4,.bool a4,.int .i64 r4,.slice pb4 nb4 cb4])) A[k1]):=hP4
   have HP0:Hid (∀ i (hi:i<us0.length) (hi':i<(A.take k1).length),PtT w0.heap.size w4 us0[i] (A.take k1)[i]):=fun i hi hi'=>(hP0 i hi hi').bel hB4
   have HL0:Hid (us0.length=(A.take k1).length):=hl0
   have HK:Hid (∀ q,u6.ownBlock=some q→W0.heap.size≤q):=fun q hq=>(hOw.out.row q hq).1
   have hz4:W0.heap.size≤w4.heap.size:=by have:=hB4.size;omega
   have hB5:Below W0.heap.size W0 w4:=hB.trans (hB4.mono hzr)
   clear hb4 cR a0 a1 a2 hP4 hO0 hP0 hl0
   go_wp2_with (at_builtin;refine wpList_append_own _ rfl _ _ 89 rfl W0.heap.size 55 i0 .nilIface 1 16 Tryz.underlying89 hi_ hz0 hz1 hz2 rfl (by decide) _ _ _ rfl (World.ownsRow.alloc hOw.out _) ⟨w4.heap.size,0,none⟩ 1 1 [.iface 48 (.agg #[.slice x4 nv4 cv4,.bool a4,.int .i64 r4,.slice pb4 nb4 cb4])] rfl rfl ?ca1 ?ca2 ?ca3 ?ca4 ?ca5 ?_)
   case ca1=>(intro j u hj;rw [Addr.add_lit];(rcases j with _ | j)<;>simp at hj<;>subst hj<;>simp (maxDischargeDepth:=12) [go_sem])
   case ca2=>first | rfl | (intro u hu;simp at hu;subst hu;rfl)
   case ca3=>unfold maxLen;omega
   case ca4=>omega
   case ca5=>first | omega | (simp;omega)
   intro v' w5 h2 h3 _
   have R5:Hid (RowP w0.heap.size W0.heap.size v' (A.take (k1+1)) w5):=by
    show RowP _ _ _ _ _
    rw [hTK.out]
    exact RowP.step hOw.out (by omega) HL0.out HP0.out HP4.out h2 h3
   have B5:Below W0.heap.size W0 w5:=Below.grown (hB5.alloc hz4 _) h3 (by simp;omega) HK.out
   clear h2 h3 hOw HP4 HP0 HL0 HK hB5
   go_wp2
   exact ⟨⟨k1+1,by omega,by go_num,R5,B5⟩,by simp [intOf];omega⟩
  case neg=>
   have c2:¬ (k1:Int)<nr:=by omega
   have hR1:Hid (RowP w0.heap.size W0.heap.size u6 A wr):=by
    have h:=hRo.out
    rwa [List.take_of_length_le (by have:=lA.out;omega)] at h
   have q8r:wr.cell? ⟨w.heap.size,8,none⟩=some (.slice ps_ ns cs):=(hB.cell (p:=⟨w.heap.size,8,none⟩) LW0).trans q8
   clear hRo HXR HRH gA
   go_wp2
   go_loopw [6,61] (fun v6 v61 wx=>∃ k:Nat,k≤ns∧v61=.int .i64 k∧Hid (RowP w0.heap.size W0.heap.size v6 (A++D.take k) wx)∧Below W0.heap.size W0 wx) (fun _ v61 _=>ns - (intOf v61).toNat)
   case atStart=>exact ⟨0,Nat.zero_le _,rfl,(by show RowP _ _ _ _ _;rw [List.take_zero,List.append_nil];exact hR1.out),hB⟩
   case round=>
    obtain ⟨k1,hk1,rfl,hRo,hB⟩:=hrel
    have hzr:=hB.size
    by_cases hlt:k1<ns
    case pos=>
     have kx:k1<f.subs.length:=by have:=ens.out;omega
     have ky:k1<D.length:=by have:=lD.out;omega
     have hlt':(k1:Int)<ns:=by omega
     obtain ⟨b,off,uv,ut,us,ur,hp,hb,FC,hV,hT,hS,hG⟩:=HXS.out k1 kx
     subst hp
     have hwr:Below w0.heap.size w0 wr:=(hw.trans (KW0.mono hzw0)).trans (hB.mono (by omega))
     obtain ⟨a0,a1,a2,a3,a4,a5,a6,a7,a8,a9⟩:=FC.below hwr hb
     have hQ:QAt w0 (f.subs[k1],(⟨uv,ut,us,ur⟩:FQ)):=⟨hV,hT,hS,hG⟩
     obtain ⟨pv1,cv1,rfl, -⟩:=hV.form
     obtain ⟨pt1,ct1,rfl, -⟩:=hT.form
     obtain ⟨pu1,cu1,rfl, -⟩:=hS.form
     obtain ⟨pg1,cg1,rfl, -⟩:=hG.form
     have hDk:=gD.out k1 ky kx
     have cF:Hid (∀ W:World,Below wr.heap.size wr W→Calls Tryz.prog 27 #[.pointer (some ⟨w.heap.size+1,0,none⟩),.agg #[.int .i64 f.subs[k1].k,.string f.subs[k1].nm,.int .i64 f.subs[k1].op,.slice pv1 f.subs[k1].vars.length cv1,.slice pt1 f.subs[k1].terms.length ct1,.int .i64 f.subs[k1].lo,.int .i64 f.subs[k1].hi,.bool f.subs[k1].opn,.slice pu1 f.subs[k1].subs.length cu1,.slice pg1 f.subs[k1].rgx.length cg1]] W fun r w'=>∃ v,r=.returned v∧PtT w0.heap.size w' v D[k1]∧Below W.heap.size W w'):=fun W hW=>by
      rw [hDk]
      exact HFH.out k1 kx (⟨.slice pv1 f.subs[k1].vars.length cv1,.slice pt1 f.subs[k1].terms.length ct1,.slice pu1 f.subs[k1].subs.length cu1,.slice pg1 f.subs[k1].rgx.length cg1⟩:FQ) _ W hQ (hwr.trans (hW.mono hwr.size)) (HEW.out.bel (hB.trans (hW.mono hzr)))
     have hTK:Hid (A++D.take (k1+1)=A++D.take k1++[D[k1]]):=by show _=_;rw [List.take_succ_eq_append_getElem ky,List.append_assoc]
     obtain ⟨us0,hO0,hl0,hP0⟩:=hRo.out
     have hl1:us0.length≤2000000:=by rw [hl0,List.length_append,List.length_take];have:=lA.out;omega
     clear FC hV hT hS hG hQ hDk hRo
     generalize f.subs[k1].k=xk at*
     generalize f.subs[k1].nm=xnm at*
     generalize f.subs[k1].op=xop at*
     generalize f.subs[k1].vars.length=xnv at*
     generalize f.subs[k1].terms.length=xnt at*
     generalize f.subs[k1].lo=xlo at*
     generalize f.subs[k1].hi=xhi at*
     generalize f.subs[k1].opn=xo at*
     generalize f.subs[k1].subs.length=xns at*
     generalize f.subs[k1].rgx.length=xnr at*
     go_wp2_with fail
     refine (cF.out _ (by go_grown)).mono ?_
     rintro r1 w4 ⟨v4,rfl,hP4,hb4⟩
     have hB4:Below wr.heap.size wr w4:=Below.trans (by go_grown) (hb4.mono (by simp))
     obtain ⟨TT,vv,rfl⟩:=hP4.pt.lens
     have hOw:Hid (OwnP W0.heap.size u6 us0 w4):=hO0.bel hB4
     have HP4:Hid (PtT w0.heap.size w4 (.iface TT vv) D[k1]):=hP4
     have HP0:Hid (∀ i (hi:i<us0.length) (hi':i<(A++D.take k1).length),PtT w0.heap.size w4 us0[i] (A++D.take k1)[i]):=fun i hi hi'=>(hP0 i hi hi').bel hB4
     have HL0:Hid (us0.length=(A++D.take k1).length):=hl0
     have HK:Hid (∀ q,u6.ownBlock=some q→W0.heap.size≤q):=fun q hq=>(hOw.out.row q hq).1
     have hz4:W0.heap.size≤w4.heap.size:=by have:=hB4.size;omega
     have hB5:Below W0.heap.size W0 w4:=hB.trans (hB4.mono hzr)
     clear hb4 cF a0 a1 a2 a3 a4 a5 a6 a7 a8 a9 hP4 hO0 hP0 hl0
     go_wp2_with (at_builtin;refine wpList_append_own _ rfl _ _ 89 rfl W0.heap.size 55 i0 .nilIface 1 16 Tryz.underlying89 hi_ hz0 hz1 hz2 rfl (by decide) _ _ _ rfl (World.ownsRow.alloc hOw.out _) ⟨w4.heap.size,0,none⟩ 1 1 [.iface TT vv] rfl rfl ?cb1 ?cb2 ?cb3 ?cb4 ?cb5 ?_)
     case cb1=>(intro j u hj;rw [Addr.add_lit];(rcases j with _ | j)<;>simp at hj<;>subst hj<;>simp (maxDischargeDepth:=12) [go_sem])
     case cb2=>first | rfl | (intro u hu;simp at hu;subst hu;rfl)
     case cb3=>unfold maxLen;omega
     case cb4=>omega
     case cb5=>first | omega | (simp;omega)
     intro v' w5 h2 h3 _
     have R5:Hid (RowP w0.heap.size W0.heap.size v' (A++D.take (k1+1)) w5):=by
      show RowP _ _ _ _ _
      rw [hTK.out]
      exact RowP.step hOw.out (by omega) HL0.out HP0.out HP4.out h2 h3
     have B5:Below W0.heap.size W0 w5:=Below.grown (hB5.alloc hz4 _) h3 (by simp;omega) HK.out
     clear h2 h3 hOw HP4 HP0 HL0 HK hB5
     go_wp2
     exact ⟨⟨k1+1,by omega,by go_num,R5,B5⟩,by simp [intOf];omega⟩
    case neg=>
     have c3:¬ (k1:Int)<ns:=by omega
     have hR2:Hid (RowP w0.heap.size w.heap.size u6 PP wr):=by
      have h:=hRo.out
      rw [List.take_of_length_le (by have:=lD.out;omega),← hPP.out] at h
      obtain ⟨us9,h1,h2,h3⟩:=h
      exact ⟨us9,own_monoB h1 hzW,h2,h3⟩
     clear hRo
     go_wp2
     go_ret
     exact ⟨_,rfl,hR2.out,KW0.trans (hB.mono hzW)⟩
def PtLT (C:Nat) (w:World) (v:Value) (ps:List Pt):Prop:=∃ p c,v=.slice p ps.length c∧ps.length≤c∧ps.length≤9223372036854775807∧∀ i (h:i<ps.length),∃ b off u,p=some ⟨b,off,none⟩∧b<w.heap.size∧w.cell? ⟨b,off+i,none⟩=some u∧PtT C w u ps[i]
theorem PtLT.lst {C:Nat} {w:World} {v:Value} {ps:List Pt} (h:PtLT C w v ps):PtLst w v ps:=by
 obtain ⟨p,c,h1,h2,h3,h4⟩:=h
 refine ⟨p,c,h1,h2,h3,fun i hi=> ?_⟩
 obtain ⟨b,off,u,e1,e2,e3,e4⟩:=h4 i hi
 exact ⟨b,off,u,e1,e2,e3,e4.pt⟩
theorem PtLT.bel {C:Nat} {w w':World} {v:Value} {ps:List Pt} (h:PtLT C w v ps) (hb:Below w.heap.size w w'):PtLT C w' v ps:=by
 obtain ⟨p,c,h1,h2,h3,h4⟩:=h
 refine ⟨p,c,h1,h2,h3,fun i hi=> ?_⟩
 obtain ⟨b,off,u,e1,e2,e3,e4⟩:=h4 i hi
 exact ⟨b,off,u,e1,Nat.lt_of_lt_of_le e2 hb.size,(hb.cell (p:=⟨b,_,none⟩) e2).trans e3,e4.bel hb⟩
theorem RowP.lt {C B:Nat} {v:Value} {ps:List Pt} {w:World} (h:RowP C B v ps w) (h63:ps.length≤9223372036854775807):PtLT C w v ps:=by
 obtain ⟨us,hO,hl,hP⟩:=h
 have h':w.ownsRow B 55 1 v us.length us:=hO
 obtain ⟨-,⟨e2,hn⟩ | ⟨g,cap,cur,e2,h1,h2,h3,h4,h5,h6⟩⟩:=hO
 ·exact ⟨none,0,by rw [e2,← hl,hn],by omega,by omega,fun i hi=>by omega⟩
 ·rw [e2] at h'
  have hc:ps.length≤cap:=by rw [← hl];exact h3
  have ev:v=.slice (some ⟨g,0,none⟩) ps.length cap:=by rw [e2,hl]
  refine ⟨_,cap,ev,hc,h63,fun i hi=> ?_⟩
  have hiu:i<us.length:=by rw [hl];exact hi
  refine ⟨g,0,us[i],rfl,slt_heap h2, ?_,hP i hiu hi⟩
  rw [Nat.zero_add,h'.cellAt i (by omega),List.getElem?_eq_getElem hiu]
theorem parts_let (w0:World) (f:Fm) (q:FQ) (e:Env) (pe:Option Addr) (w:World) (A B:Fm) (hk:f.k=20) (hs:f.subs=[A,B]) (hq:QAt w0 (f,q)) (hw:Below w0.heap.size w0 w) (hE:EnvAt w pe e)
  (HA:∀ (qg:FQ) (W:World),QAt w0 (A,qg)→Below w0.heap.size w0 W→EnvAt W pe e→Calls Tryz.prog 27 #[.pointer pe,.agg #[.int .i64 A.k,.string A.nm,.int .i64 A.op,qg.v,qg.t,.int .i64 A.lo,.int .i64 A.hi,.bool A.opn,qg.s,qg.r]] W fun r w'=>∃ v,r=.returned v∧PtT w0.heap.size w' v (prtF A e)∧Below W.heap.size W w')
  (HB:∀ (qg:FQ) (pe':Option Addr) (W:World),QAt w0 (B,qg)→Below w0.heap.size w0 W→EnvAt W pe' ((f.nm,(prtF A e).about.reach)::e)→Calls Tryz.prog 27 #[.pointer pe',.agg #[.int .i64 B.k,.string B.nm,.int .i64 B.op,qg.v,qg.t,.int .i64 B.lo,.int .i64 B.hi,.bool B.opn,qg.s,qg.r]] W fun r w'=>∃ v,r=.returned v∧PtT w0.heap.size w' v (prtF B ((f.nm,(prtF A e).about.reach)::e))∧Below W.heap.size W w'):
  Calls Tryz.prog 49 #[.pointer pe,.agg #[.int .i64 f.k,.string f.nm,.int .i64 f.op,q.v,q.t,.int .i64 f.lo,.int .i64 f.hi,.bool f.opn,q.s,q.r]] w fun r w'=>∃ v,r=.returned v∧PtLT w0.heap.size w' v (ptsE f e)∧Below w.heap.size w w':=by
 have CA:Hid (∀ (a:Bool) (r:Int) (pv pb:Option Addr) (nv nb cv cb:Nat) (W:World),Calls Tryz.prog 197 #[.agg #[.slice pv nv cv,.bool a,.int .i64 r,.slice pb nb cb]] W fun e w'=>e=.returned (.agg #[.slice pv nv cv,.bool a,.int .i64 r,.slice pb nb cb])∧Below W.heap.size W w'):=fun a r pv pb nv nb cv cb W=>about_fx (.bool true) (.bool true) a r pv pb nv nb cv cb W
 have eP:ptsE f e=[prtF A e,prtF B ((f.nm,(prtF A e).about.reach)::e)]:=by
  unfold ptsE
  rw [if_pos hk,hs,letF,prtFs,prtFs]
 rw [eP]
 have hqs:=hq.2.2.1
 simp only at hqs
 obtain ⟨⟨pv,cv,ev⟩,⟨pt,ct,et⟩, -,⟨pr,cr,er⟩⟩:=sfm_forms hq
 rw [hs] at hqs
 obtain ⟨p,cs,es,hsl,hsc,HX⟩:=hqs.form
 obtain ⟨b,off,auv,aut,aus,aur,rfl,hb,FA,hA1,hA2,hA3,hA4⟩:=HX 0 (by simp)
 obtain ⟨b',off',buv,but_,bus,bur,e9,hb',FB,hB1,hB2,hB3,hB4⟩:=HX 1 (by simp)
 injection e9 with e9
 injection e9 with e91 e92
 subst e91 e92
 simp only [List.getElem_cons_zero,List.getElem_cons_succ] at FA FB hA1 hA2 hA3 hA4 hB1 hB2 hB3 hB4
 rw [Nat.zero_mul,Nat.add_zero] at FA
 rw [Nat.one_mul] at FB
 have QA:QAt w0 (A,(⟨auv,aut,aus,aur⟩:FQ)):=⟨hA1,hA2,hA3,hA4⟩
 have QB:QAt w0 (B,(⟨buv,but_,bus,bur⟩:FQ)):=⟨hB1,hB2,hB3,hB4⟩
 obtain ⟨pav,cav,rfl, -⟩:=hA1.form
 obtain ⟨pat,cat,rfl, -⟩:=hA2.form
 obtain ⟨pas,cas,rfl, -⟩:=hA3.form
 obtain ⟨par,car,rfl, -⟩:=hA4.form
 obtain ⟨pbv,cbv,rfl, -⟩:=hB1.form
 obtain ⟨pbt,cbt,rfl, -⟩:=hB2.form
 obtain ⟨pbs,cbs,rfl, -⟩:=hB3.form
 obtain ⟨pbr,cbr,rfl, -⟩:=hB4.form
 have cA:=HA (⟨.slice pav A.vars.length cav,.slice pat A.terms.length cat,.slice pas A.subs.length cas,.slice par A.rgx.length car⟩:FQ)
 have cB:=HB (⟨.slice pbv B.vars.length cbv,.slice pbt B.terms.length cbt,.slice pbs B.subs.length cbs,.slice pbr B.rgx.length cbr⟩:FQ)
 have CAA:Hid (∀ W:World,Below w.heap.size w W→Calls Tryz.prog 27 #[.pointer pe,.agg #[.int .i64 A.k,.string A.nm,.int .i64 A.op,.slice pav A.vars.length cav,.slice pat A.terms.length cat,.int .i64 A.lo,.int .i64 A.hi,.bool A.opn,.slice pas A.subs.length cas,.slice par A.rgx.length car]] W fun r w'=>∃ v,r=.returned v∧PtT w0.heap.size w' v (prtF A e)∧Below W.heap.size W w'):=fun W hW=>cA W QA (hw.trans (hW.mono hw.size)) (hE.bel hW)
 have CBB:Hid (∀ (pe':Option Addr) (W:World),Below w.heap.size w W→EnvAt W pe' ((f.nm,(prtF A e).about.reach)::e)→Calls Tryz.prog 27 #[.pointer pe',.agg #[.int .i64 B.k,.string B.nm,.int .i64 B.op,.slice pbv B.vars.length cbv,.slice pbt B.terms.length cbt,.int .i64 B.lo,.int .i64 B.hi,.bool B.opn,.slice pbs B.subs.length cbs,.slice pbr B.rgx.length cbr]] W fun r w'=>∃ v,r=.returned v∧PtT w0.heap.size w' v (prtF B ((f.nm,(prtF A e).about.reach)::e))∧Below W.heap.size W w'):=fun pe' W hW h=>cB pe' W QB (hw.trans (hW.mono hw.size)) h
 obtain ⟨a0,a1,a2,a3,a4,a5,a6,a7,a8,a9⟩:=FA.below hw hb
 obtain ⟨b0,b1,b2,b3,b4,b5,b6,b7,b8,b9⟩:=FB.below hw hb
 have hbw:b<w.heap.size:=Nat.lt_of_lt_of_le hb hw.size
 have hzw:=hw.size
 have HE:Hid (EnvAt w pe e):=hE
 rw [ev,et,es,er,hk]
 simp only [List.length_cons,List.length_nil] at hsl hsc ⊢
 have hc2:2≤cs:=by omega
 obtain ⟨ns,ens⟩:∃ ns:Nat,Hid (0+1+1=ns):=⟨_,rfl⟩
 have hns:(1:Int)<(ns:Int):=by have:=ens.out;omega
 have hns0:(0:Int)<(ns:Int):=by omega
 have hns0':0<ns:=by omega
 rw [ens.out]
 obtain ⟨PA,ePA⟩:∃ PA,Hid (prtF A e=PA):=⟨_,rfl⟩
 rw [ePA.out] at CAA CBB ⊢
 obtain ⟨PB,ePB⟩:∃ PB,Hid (prtF B ((f.nm,PA.about.reach)::e)=PB):=⟨_,rfl⟩
 rw [ePB.out] at CBB ⊢
 clear hq eP hqs HX FA FB hA1 hA2 hA3 hA4 hB1 hB2 hB3 hB4 QA QB cA cB HA HB hE ev et es er hk hs hb' ePA ePB hsl hsc
 generalize f.vars.length=nv at*
 generalize f.terms.length=nt at*
 generalize f.rgx.length=nr at*
 generalize f.nm=nm at*
 generalize f.op=op at*
 generalize f.lo=lo at*
 generalize f.hi=hi at*
 generalize f.opn=o at*
 generalize A.k=ak at*
 generalize A.nm=anm at*
 generalize A.op=aop at*
 generalize A.vars.length=anv at*
 generalize A.terms.length=ant at*
 generalize A.lo=alo at*
 generalize A.hi=ahi at*
 generalize A.opn=ao at*
 generalize A.subs.length=ans at*
 generalize A.rgx.length=anr at*
 generalize B.k=bk at*
 generalize B.nm=bnm at*
 generalize B.op=bop at*
 generalize B.vars.length=bnv at*
 generalize B.terms.length=bnt at*
 generalize B.lo=blo at*
 generalize B.hi=bhi at*
 generalize B.opn=bo at*
 generalize B.subs.length=bns at*
 generalize B.rgx.length=bnr at*
 have hfd:=fld_reach
 go_enter Tryz.func49,Tryz.ntmps49
 go_wp2_with fail
 refine (CAA.out _ (by go_grown)).mono ?_
 rintro r1 w1 ⟨v1,rfl,hP1,hb1⟩
 have K1:Below w.heap.size w w1:=Below.trans (by go_grown) (hb1.mono (by simp))
 have hl1:w.heap.size<w1.heap.size:=Nat.lt_of_lt_of_le (by simp) hb1.size
 have gb:∀ o,w1.cell? ⟨w.heap.size,o,none⟩=_:=fun o=>hb1.cell (p:=⟨w.heap.size,o,none⟩) (by simp)
 have x1:w1.cell? ⟨w.heap.size,1,none⟩=some (.string nm):=(gb 1).trans (by simp (maxDischargeDepth:=12) [go_sem])
 have x8:w1.cell? ⟨w.heap.size,8,none⟩=some (.slice (some ⟨b,off,none⟩) ns cs):=(gb 8).trans (by simp (maxDischargeDepth:=12) [go_sem])
 obtain ⟨T1,vv1,pv1,pb1,cv1,cb1,rfl, -, -,hm1⟩:=hP1.pt.abt
 have HP1:Hid (PtT w0.heap.size w1 (.iface T1 vv1) PA):=hP1
 clear hb1 gb hP1 CAA a0 a1 a2 a3 a4 a5 a6 a7 a8 a9
 generalize PA.about.acc=A1 at*
 generalize PA.about.reach=r1 at*
 generalize PA.about.vars.length=n1 at*
 generalize PA.about.bare.length=b1_ at*
 go_upto_region 4 with fail
 refine wp_world ?_
 intro W0 hW0
 have b10:Below w1.heap.size w1 W0:=by rw [hW0];go_grown
 clear hW0
 have KW0:Below w.heap.size w W0:=K1.trans (b10.mono K1.size)
 have LW0:w.heap.size<W0.heap.size:=Nat.lt_of_lt_of_le hl1 b10.size
 have hbW:b<W0.heap.size:=Nat.lt_of_lt_of_le hbw KW0.size
 have q1:=(b10.cell (p:=⟨w.heap.size,1,none⟩) hl1).trans x1
 have q8:=(b10.cell (p:=⟨w.heap.size,8,none⟩) hl1).trans x8
 have d0:=(KW0.cell (p:=⟨b,off+10,none⟩) hbw).trans b0
 have d1:=(KW0.cell (p:=⟨b,off+10+1,none⟩) hbw).trans b1
 have d2:=(KW0.cell (p:=⟨b,off+10+2,none⟩) hbw).trans b2
 have d3:=(KW0.cell (p:=⟨b,off+10+3,none⟩) hbw).trans b3
 have d4:=(KW0.cell (p:=⟨b,off+10+4,none⟩) hbw).trans b4
 have d5:=(KW0.cell (p:=⟨b,off+10+5,none⟩) hbw).trans b5
 have d6:=(KW0.cell (p:=⟨b,off+10+6,none⟩) hbw).trans b6
 have d7:=(KW0.cell (p:=⟨b,off+10+7,none⟩) hbw).trans b7
 have d8:=(KW0.cell (p:=⟨b,off+10+8,none⟩) hbw).trans b8
 have d9:=(KW0.cell (p:=⟨b,off+10+9,none⟩) hbw).trans b9
 have HP0:Hid (PtT w0.heap.size W0 (.iface T1 vv1) PA):=HP1.out.bel b10
 have HEW:Hid (∀ (W:World) (g:Nat),Below w.heap.size w W→g<W.heap.size→W.cell? ⟨g,0,none⟩=some (.string nm)→W.cell? ⟨g,1,none⟩=some (.int .i64 r1)→W.cell? ⟨g,2,none⟩=some (.pointer pe)→EnvAt W (some ⟨g,0,none⟩) ((nm,r1)::e)):=fun W g hW h1 h2 h3 h4=>.cons h1 h2 h3 h4 (HE.out.bel hW)
 clear x1 x8 b0 b1 b2 b3 b4 b5 b6 b7 b8 b9 HP1 HE b10 hl1
 go_region_held3 (fun W=>W.cell? ⟨w.heap.size,1,none⟩=some (.string nm)∧W.cell? ⟨w.heap.size,8,none⟩=some (.slice (some ⟨b,off,none⟩) ns cs)∧W.cell? ⟨b,off+10,none⟩=some (.int .i64 bk)∧W.cell? ⟨b,off+10+1,none⟩=some (.string bnm)∧W.cell? ⟨b,off+10+2,none⟩=some (.int .i64 bop)∧W.cell? ⟨b,off+10+3,none⟩=some (.slice pbv bnv cbv)∧W.cell? ⟨b,off+10+4,none⟩=some (.slice pbt bnt cbt)∧W.cell? ⟨b,off+10+5,none⟩=some (.int .i64 blo)∧W.cell? ⟨b,off+10+6,none⟩=some (.int .i64 bhi)∧W.cell? ⟨b,off+10+7,none⟩=some (.bool bo)∧W.cell? ⟨b,off+10+8,none⟩=some (.slice pbs bns cbs)∧W.cell? ⟨b,off+10+9,none⟩=some (.slice pbr bnr cbr)) (exact ⟨bcl (n:=W0.heap.size) (by go_grown) q1 LW0,bcl (n:=W0.heap.size) (by go_grown) q8 LW0,bcl (n:=W0.heap.size) (by go_grown) d0 hbW,bcl (n:=W0.heap.size) (by go_grown) d1 hbW,bcl (n:=W0.heap.size) (by go_grown) d2 hbW,bcl (n:=W0.heap.size) (by go_grown) d3 hbW,bcl (n:=W0.heap.size) (by go_grown) d4 hbW,bcl (n:=W0.heap.size) (by go_grown) d5 hbW,bcl (n:=W0.heap.size) (by go_grown) d6 hbW,bcl (n:=W0.heap.size) (by go_grown) d7 hbW,bcl (n:=W0.heap.size) (by go_grown) d8 hbW,bcl (n:=W0.heap.size) (by go_grown) d9 hbW⟩)
  (first
   | (go_at_call 197;refine (CA.out _ _ _ _ _ _ _ _ _).mono ?_;rintro e_ v1 ⟨rfl,hb1⟩;obtain ⟨hX1,hn1⟩:=bgX (n:=W0.heap.size) (W0:=W0) (by go_grown) (by go_size) hb1)
   | (go_at_call 27;refine (CBB.out _ _ (KW0.trans (Below.mono (B:=W0.heap.size) (by go_grown) KW0.size)) (HEW.out _ _ (KW0.trans (Below.mono (B:=W0.heap.size) (by go_grown) KW0.size)) (by simp) (by simp (maxDischargeDepth:=12) [go_sem]) (by simp (maxDischargeDepth:=12) [go_sem]) (by simp (maxDischargeDepth:=12) [go_sem]))).mono ?_;rintro e_ v2 ⟨u2,rfl,hP2,hb2⟩;obtain ⟨T2,vv2,rfl⟩:=hP2.pt.lens;obtain ⟨hX2,hn2⟩:=bgX (n:=W0.heap.size) (W0:=W0) (by go_grown) (by go_size) hb2))
 all_goals
  have HP2:Hid (PtT w0.heap.size v2 (.iface T2 vv2) PB):=hP2
  have HPA2:Hid (PtT w0.heap.size v2 (.iface T1 vv1) PA):=HP0.out.bel hX2
  go_wp2
  go_ret
  refine ⟨_,rfl,⟨_,_,rfl,by simp,by simp,fun i hi=> ?_⟩,KW0.trans (Below.mono (B:=W0.heap.size) (by go_grown) KW0.size)⟩
  rcases i with _ | _ | i
  ·exact ⟨_,0,.iface T1 vv1,rfl,by simp,by simp (maxDischargeDepth:=12) [go_sem],HPA2.out.bel (by go_grown)⟩
  ·exact ⟨_,0,.iface T2 vv2,rfl,by simp,by simp (maxDischargeDepth:=12) [go_sem],HP2.out.bel (by go_grown)⟩
  ·simp at hi;omega
end Go.Proofs.YthodedagbbifbaaGreat
namespace Go.Proofs.YthodedagbbifbaaGreat
open Go.RowKit LX Go.Shelf
set_option linter.unusedVariables false
theorem ptB_mk {e:Env} {f:Fm} {l:List Pt} (h:∀ t∈f.terms,TmB t) (h2:f.k=4∨f.k=5∨f.k=6→1<f.terms.length):PtB (mkP e f l):=by
 unfold mkP
 split
 ·exact trivial
 ·split
  ·rename_i h7 h4
   have hl:=h2 h4
   have n0:tmN f.terms 0=f.terms[0]'(by omega):=by unfold tmN;rw [List.getD_eq_getElem?_getD,List.getElem?_eq_getElem (by omega)];rfl
   have n1:tmN f.terms 1=f.terms[1]'hl:=by unfold tmN;rw [List.getD_eq_getElem?_getD,List.getElem?_eq_getElem hl];rfl
   exact ⟨by rw [n0];exact h _ (List.getElem_mem _),by rw [n1];exact h _ (List.getElem_mem _)⟩
  ·exact trivial
theorem ptB_prt {f:Fm} (hw:wfF f) (hn:nodF f≤1000000) (e:Env):PtB (prtF f e):=by
 have h0:=nodF_eq f
 have hp:=pts_n hw e
 rw [wfF_eq] at hw
 rw [prtF_pts]
 exact ptB_mk (tm_bnd hw.2.1 (by omega)) hp.2.2
theorem ptB_fs {l:List Fm} (hw:wfFs l) (hn:nodFs l≤1000000) (e:Env):∀ p∈prtFs l e,PtB p:=by
 intro p hp
 rw [prtFs_map] at hp
 obtain ⟨g,hg,rfl⟩:=List.mem_map.1 hp
 exact ptB_prt (wfFs_in hw g hg) (by have:=nodFs_in g hg;omega) e
theorem ptB_all {f:Fm} (hw:wfF f) (hn:nodF f≤1000000) (e:Env):∀ p∈ptsE f e,PtB p:=by
 have h0:=nodF_eq f
 rw [wfF_eq] at hw
 intro p hp
 unfold ptsE at hp
 by_cases h20:f.k=20
 ·rw [if_pos h20] at hp
  cases hs:f.subs with
  | nil=>rw [hs,letF] at hp;cases hp
  | cons g l=>
   rw [hs,letF] at hp
   obtain ⟨-, -, -,hws⟩:=hw
   rw [hs,wfFs_cons] at hws
   rw [hs,nodFs_cons] at h0
   rcases List.mem_cons.1 hp with rfl | hp
   ·exact ptB_prt hws.1 (by omega) e
   ·exact ptB_fs hws.2 (by omega) _ p hp
 ·rw [if_neg h20] at hp
  rcases List.mem_append.1 hp with hp | hp
  ·rw [prtRs_map] at hp
   obtain ⟨g,hg,rfl⟩:=List.mem_map.1 hp
   exact trivial
  ·exact ptB_fs hw.2.2.2 (by omega) _ p hp
theorem ptN_B {l:List Pt} (h:∀ p∈l,PtB p) (n:Nat):PtB (ptN l n):=by
 unfold ptN
 rw [List.getD_eq_getElem?_getD]
 cases hg:l[n]? with
 | none=>exact trivial
 | some p=>exact h p (List.mem_of_getElem? hg)
theorem env_let {M:Int} {e:Env} (he:EnvB M e) {nm:ByteArray} {r:Int} {M':Int} (h0:0≤r) (h1:r≤M') (hM:M≤M'):EnvB M' ((nm,r)::e):=by
 intro x hx
 rcases List.mem_cons.1 hx with rfl | hx
 ·exact ⟨h0,h1⟩
 ·have:=he x hx;omega
theorem rch_fs {l:List Fm} {e:Env} {M:Int} (hw:wfFs l) (hM:0≤M) (he:EnvB M e):∀ p∈prtFs l e,0≤p.about.reach∧p.about.reach≤M+1099511627776*(nodFs l:Int):=by
 intro p hp
 rw [prtFs_map] at hp
 obtain ⟨g,hg,rfl⟩:=List.mem_map.1 hp
 have hm:=nodFs_in g hg
 have h:=(rch_bd (nodF g)).1 g e M (Nat.le_refl _) (wfFs_in hw g hg) hM he
 exact ⟨h.1,by omega⟩
theorem rch_rs {l:List Rx} {e:Env} {M:Int} (hw:wfRs l) (hM:0≤M) (he:EnvB M e):∀ p∈prtRs l e,0≤p.about.reach∧p.about.reach≤M+1099511627776*(nodRs l:Int):=by
 intro p hp
 rw [prtRs_map] at hp
 obtain ⟨g,hg,rfl⟩:=List.mem_map.1 hp
 have hm:=nodRs_in g hg
 have h:=(rch_bd (nodR g)).2 g e M (Nat.le_refl _) (wfRs_in hw g hg) hM he
 exact ⟨h.1,by show (prtR g e).reach≤_;omega⟩
theorem pts_rch {f:Fm} {e:Env} {M:Int} (hw:wfF f) (hM:0≤M) (he:EnvB M e):∀ p∈ptsE f e,0≤p.about.reach∧p.about.reach≤M+1099511627776*(nodF f:Int):=by
 have h0:=nodF_eq f
 rw [wfF_eq] at hw
 intro p hp
 unfold ptsE at hp
 by_cases h20:f.k=20
 ·rw [if_pos h20] at hp
  cases hs:f.subs with
  | nil=>rw [hs,letF] at hp;cases hp
  | cons g l=>
   rw [hs,letF] at hp
   obtain ⟨-, -, -,hws⟩:=hw
   rw [hs,wfFs_cons] at hws
   rw [hs,nodFs_cons] at h0
   have hg:=(rch_bd (nodF g)).1 g e M (Nat.le_refl _) hws.1 hM he
   rcases List.mem_cons.1 hp with rfl | hp
   ·exact ⟨hg.1,by omega⟩
   ·have h:=rch_fs (M:=M+1099511627776*(nodF g:Int)) hws.2 (by omega) (env_let he hg.1 hg.2 (by omega)) p hp
    exact ⟨h.1,by omega⟩
 ·rw [if_neg h20] at hp
  have hE':EnvB M (if f.k=21 then (f.nm,0)::e else e):=by
   split
   ·exact env_let he (Int.le_refl _) hM (Int.le_refl _)
   ·exact he
  rcases List.mem_append.1 hp with hp | hp
  ·have h:=rch_rs hw.2.2.1 hM hE' p hp;exact ⟨h.1,by omega⟩
  ·have h:=rch_fs hw.2.2.2 hM hE' p hp;exact ⟨h.1,by omega⟩
theorem far_pts {f:Fm} {e:Env} {M:Int} (hw:wfF f) (hM:0≤M) (he:EnvB M e) (hb:M+1099511627776*(nodF f:Int)≤4611686018427387904):0≤farP (ptsE f e)∧farP (ptsE f e)≤4611686018427387904:=
 far_bd (by omega) (fun p hp=>by have:=pts_rch hw hM he p hp;omega)
theorem varF_sz {f:Fm} (hw:wfF f):∀ s∈varF f,s.size≤281474976710656:=by
 intro s hs
 unfold varF at hs
 split at hs
 ·exact nameB_sz ((fre_up _ f (Nat.le_refl _) hw).2.2 s hs)
 ·cases hs
theorem sgrown_trans {w w1 w2:World} {g:Option Nat} (h:w.grownBy w1 g) (hb:w1.grownBy w2 g):w.grownBy w2 g:=
 ⟨hb.os.trans h.os,hb.tape.trans h.tape,hb.output.trans h.output,Nat.le_trans h.size hb.size,fun k hk hne=>(hb.block k (Nat.lt_of_lt_of_le hk h.size) hne).trans (h.block k hk hne)⟩
theorem sown_take {w:World} {B e n cap g m:Nat} {xs:List Value} (h:w.ownsRow B e 1 (.slice (some ⟨g,0,none⟩) n cap) n xs) (hm:m≤n):w.ownsRow B e 1 (.slice (some ⟨g,0,none⟩) m cap) m (xs.take m):=by
 obtain ⟨hl,⟨e, -⟩ | ⟨g',cap',cur,e,h1,h2,h3,h4,h5,h6⟩⟩:=h
 ·cases e
 ·injection e with e1 e2 e3
  injection e1 with e1
  injection e1 with e1
  subst e1 e3
  refine ⟨by rw [List.length_take];omega,Or.inr ⟨g,cap,cur,rfl,h1,h2,by omega,h4,h5, ?_⟩⟩
  rw [← h6,List.take_take]
  congr 1
  omega
theorem sown_setCells {B e n cap g:Nat}:∀ (vs:List Value) (o:Nat) (w:World) (xs:List Value),w.ownsRow B e 1 (.slice (some ⟨g,0,none⟩) n cap) n xs→∃ ys,(w.setCells g o vs).ownsRow B e 1 (.slice (some ⟨g,0,none⟩) n cap) n ys∧ys.take o=xs.take o∧w.grownBy (w.setCells g o vs) (some g)
 | [],o,w,xs,h=>⟨xs,h,rfl,⟨rfl,rfl,rfl,Nat.le_refl _,fun _ _ _=>rfl⟩⟩
 | v::vs,o,w,xs,h=>by
  obtain ⟨s1,s2⟩:=h.stored o v
  obtain ⟨ys,h1,h2,h3⟩:=sown_setCells vs (o+1) _ _ s1
  refine ⟨ys,h1, ?_,sgrown_trans s2 h3⟩
  have e1:ys.take o=(ys.take (o+1)).take o:=by rw [List.take_take];congr 1;omega
  rw [e1,h2,List.take_take,show min o (o+1)=o by omega,List.take_set_of_le (Nat.le_refl _)]
def ixN (x:ByteArray):List ByteArray→Nat→Int
 | [],_=> -1
 | y::l,k=>if y=x then (k:Int) else ixN x l (k+1)
theorem txt_eq (a b:ByteArray):(a.toList==b.toList)=decide (a=b):=by
 by_cases h:a=b
 ·subst h;simp
 ·rw [decide_eq_false h,beq_eq_false_iff_ne]
  intro h2
  apply h
  rw [ByteArray.toList_eq,ByteArray.toList_eq] at h2
  exact ByteArray.ext (Array.toList_inj.1 h2)
theorem isX_any (s x:ByteArray) (box:Nat) (w:World) (hb:w.cell? ⟨box,0,none⟩=some (.string x)):
  Calls Tryz.prog 123 #[.string s,.pointer (some ⟨box,0,none⟩)] w fun e w'=>e=.returned (.bool (decide (s=x)))∧w'=w:=by
 go_enter Tryz.func123,Tryz.ntmps123
 go_wp2
 go_ret
 exact ⟨by rw [txt_eq];rfl,rfl⟩
theorem idxN_any (ys:List ByteArray) (x:ByteArray) (V:Value) (box:Nat) (w:World) (hV:NmsAt w V ys) (hb:w.cell? ⟨box,0,none⟩=some (.string x)):
  Calls Tryz.prog 138 #[V,.func (.func 123) #[] #[.pointer (some ⟨box,0,none⟩)]] w fun e w'=>e=.returned (.int .i64 (ixN x ys 0))∧w'=w:=by
 have eg:∀ args w,(callFunc 123 args).run Tryz.prog w=.ok (.enter 123 args) w:=enters_of Tryz.func123 (by kernel_rfl) rfl
 obtain ⟨p,c,rfl,hl,hc,HX0⟩:=hV.form
 have HX:Hid (∀ i (hi:i<ys.length),∃ b off,p=some ⟨b,off,none⟩∧b<w.heap.size∧w.cell? ⟨b,off+i,none⟩=some (.string ys[i])):=HX0
 have CX:Hid (∀ s,Calls Tryz.prog 123 #[.string s,.pointer (some ⟨box,0,none⟩)] w fun e w'=>e=.returned (.bool (decide (s=x)))∧w'=w):=fun s=>isX_any s x box w hb
 obtain ⟨n,en⟩:∃ n:Nat,Hid (ys.length=n):=⟨_,rfl⟩
 rw [en.out] at hl hc ⊢
 obtain ⟨R,eR⟩:∃ R:Int,Hid (ixN x ys 0=R):=⟨_,rfl⟩
 rw [eR.out]
 clear hV HX0 hb
 go_enter Tryz.func138,Tryz.ntmps138
 go_wp2
 go_loopw [8] (fun i wr=>∃ k:Nat,k≤n∧i=.int .i64 k∧Hid (ixN x (ys.drop k) k=R)∧w=wr) (fun i _=>n - (intOf i).toNat)
 case atStart=>exact ⟨0,Nat.zero_le _,rfl,by rw [List.drop_zero];exact eR,rfl⟩
 case round=>
  obtain ⟨k,hk,rfl,hr,rfl⟩:=hrel
  by_cases hlt:k<n
  ·have kx:k<ys.length:=by have:=en.out;omega
   have hlt':(k:Int)<n:=by omega
   obtain ⟨b,off,rfl,hb,r0⟩:=HX.out k kx
   have hr2:Hid ((if ys[k]=x then (k:Int) else ixN x (ys.drop (k+1)) (k+1))=R):=by
    have h:=hr.out
    rw [List.drop_eq_getElem_cons kx] at h
    exact h
   have ct:=CX.out ys[k]
   obtain ⟨D,eD⟩:∃ D:Bool,Hid (decide (ys[k]=x)=D):=⟨decide (ys[k]=x),(show _=_ from rfl)⟩
   rw [eD.out] at ct
   have tail:(D=true→Hid (R=(k:Int)))∧(D=false→Hid (ixN x (ys.drop (k+1)) (k+1)=R)):=by
    constructor
    ·intro h
     have h1:ys[k]=x:=of_decide_eq_true (eD.out.trans h)
     have h2:=hr2.out
     rw [if_pos h1] at h2
     exact h2.symm
    ·intro h
     have h1:¬ ys[k]=x:=of_decide_eq_false (eD.out.trans h)
     have h2:=hr2.out
     rw [if_neg h1] at h2
     exact h2
   have TL:Hid ((D=true→Hid (R=(k:Int)))∧(D=false→Hid (ixN x (ys.drop (k+1)) (k+1)=R))):=tail
   clear hr hr2 eD tail
   generalize ys[k]=Y at*
   have ct2:Hid (Calls Tryz.prog 123 #[.string Y,.pointer (some ⟨box,0,none⟩)] w fun e w'=>e=.returned (.bool D)∧w'=w):=ct
   clear ct
   go_wp2_with fail
   refine ct2.out.mono ?_
   rintro e w1 ⟨rfl,hw⟩
   obtain rfl:=hw.symm
   obtain ⟨t1,t2⟩:=TL.out
   clear ct2 TL
   cases D with
   | true=>
    have hr3:=t1 rfl
    clear t1 t2
    go_wp2
    go_ret
    exact ⟨by rw [hr3.out];rfl,rfl⟩
   | false=>
    have hr3:=t2 rfl
    clear t1 t2
    go_wp2
    exact ⟨⟨k+1,by omega,by go_num,hr3,by trivial⟩,by simp [intOf];omega⟩
  ·have c2:¬ (k:Int)<n:=by omega
   have hr3:Hid (R= -1):=by
    have h:=hr.out
    rw [List.drop_eq_nil_of_le (by have:=en.out;omega)] at h
    exact h.symm
   go_wp2
   go_ret
   exact ⟨by rw [hr3.out];rfl,rfl⟩
theorem butN_app (l m:List ByteArray) (x:ByteArray):butN (l++m) x=butN l x++butN m x:=List.filter_append ..
theorem butN_none {x:ByteArray}:∀ {l:List ByteArray} {k:Nat},ixN x l k= -1→butN l x=l
 | [],_,_=>rfl
 | y::l,k,h=>by
  unfold ixN at h
  by_cases hy:y=x
  ·rw [if_pos hy] at h;omega
  ·rw [if_neg hy] at h
   have:=butN_none h
   unfold butN at this ⊢
   rw [List.filter_cons_of_pos (by simpa using hy),this]
theorem butN_at {x:ByteArray}:∀ {l:List ByteArray} {k:Nat},ixN x l k≠ -1→∃ i,ixN x l k=((k+i:Nat):Int)∧i<l.length∧butN (l.take (i+1)) x=l.take i
 | [],_,h=>absurd rfl h
 | y::l,k,h=>by
  unfold ixN at h ⊢
  by_cases hy:y=x
  ·rw [if_pos hy]
   refine ⟨0,rfl,by simp, ?_⟩
   unfold butN
   simp [hy]
  ·rw [if_neg hy] at h ⊢
   obtain ⟨i,h1,h2,h3⟩:=butN_at h
   refine ⟨i+1,by rw [h1];congr 1;omega,by simpa using h2, ?_⟩
   rw [List.take_succ_cons]
   unfold butN at h3 ⊢
   rw [List.filter_cons_of_pos (by simpa using hy),h3]
   rfl
theorem del_any (n cap g B box:Nat) (ys:List ByteArray) (x:ByteArray) (w:World) (hown:w.ownsRow B 9 1 (.slice (some ⟨g,0,none⟩) n cap) n (ys.map Value.string)) (hb:w.cell? ⟨box,0,none⟩=some (.string x)) (hbl:box<w.heap.size) (hne:box≠g):
  Calls Tryz.prog 121 #[.slice (some ⟨g,0,none⟩) n cap,.func (.func 123) #[] #[.pointer (some ⟨box,0,none⟩)]] w fun e w'=>∃ m,e=.returned (.slice (some ⟨g,0,none⟩) m cap)∧w'.ownsRow B 9 1 (.slice (some ⟨g,0,none⟩) m cap) m ((butN ys x).map Value.string)∧w.grownBy w' (some g):=by
 have eg:∀ args w,(callFunc 123 args).run Tryz.prog w=.ok (.enter 123 args) w:=enters_of Tryz.func123 (by kernel_rfl) rfl
 have hlen:ys.length=n:=by have:=hown.1;rw [List.length_map] at this;omega
 have HO:Hid (w.ownsRow B 9 1 (.slice (some ⟨g,0,none⟩) n cap) n (ys.map Value.string)):=hown
 have hglt:g<w.heap.size:=(World.ownsRow.lt hown g rfl).2
 have hc:n≤cap∧cap≤9223372036854775807:=by
  obtain ⟨hl,⟨e, -⟩ | ⟨g',cap',cur,e,h1,h2,h3,h4,h5,h6⟩⟩:=hown
  ·cases e
  ·injection e with e1 e2 e3
   subst e3
   unfold maxLen at h4
   exact ⟨h3,by omega⟩
 obtain ⟨hc1,hc2⟩:=hc
 have HG:Hid (w.grownBy w (some g)):=⟨rfl,rfl,rfl,Nat.le_refl _,fun _ _ _=>rfl⟩
 have HB:Hid (∀ W:World,w.grownBy W (some g)→W.cell? ⟨box,0,none⟩=some (.string x)):=fun W hW=>(World.cell?_of_block (hW.block box hbl (fun e=>hne (by injection e)))).trans hb
 have hN:NmsAt w (.slice (some ⟨g,0,none⟩) n cap) ys:=⟨by omega,some ⟨g,0,none⟩,cap,by rw [hlen],by omega,Or.inr ⟨g,0,rfl,hglt,fun i hi=>by
  rw [Nat.zero_add,hown.cellAt i (by omega),List.getElem?_eq_getElem (by rw [List.length_map];exact hi),List.getElem_map]⟩⟩
 have cI:Hid (Calls Tryz.prog 138 #[.slice (some ⟨g,0,none⟩) n cap,.func (.func 123) #[] #[.pointer (some ⟨box,0,none⟩)]] w fun e w'=>e=.returned (.int .i64 (ixN x ys 0))∧w'=w):=idxN_any ys x _ box w hN hb
 have HLN:Hid (ys.length=n):=hlen
 clear hN hb hown hlen
 by_cases hi0:ixN x ys 0= -1
 ·have hz:Hid (butN ys x=ys):=butN_none hi0
  rw [hi0] at cI
  clear hi0
  go_enter Tryz.func121,Tryz.ntmps121
  go_wp2_with fail
  refine cI.out.mono ?_
  rintro e w1 ⟨rfl,hw⟩
  obtain rfl:=hw.symm
  clear cI
  go_wp2
  go_ret
  exact ⟨n,rfl,by rw [hz.out];exact HO.out,HG.out⟩
 ·obtain ⟨i,hi1,hi2,hi3⟩:=butN_at hi0
  rw [Nat.zero_add] at hi1
  rw [hi1] at cI
  have hi4:i<n:=by have:=HLN.out;omega
  have hi5:¬ ((i:Int)= -1):=by omega
  have I0:Hid (∃ xs:List Value,w.ownsRow B 9 1 (.slice (some ⟨g,0,none⟩) n cap) n xs∧(∀ q,i+1≤q→xs[q]? =(ys.map Value.string)[q]?)∧xs.take i=(butN (ys.take (i+1)) x).map Value.string):=⟨_,HO.out,fun _ _=>rfl,by rw [hi3,List.map_take]⟩
  clear hi0 hi1 hi2 hi3 HO
  go_enter Tryz.func121,Tryz.ntmps121
  go_wp2_with fail
  refine cI.out.mono ?_
  rintro e w1 ⟨rfl,hw⟩
  obtain rfl:=hw.symm
  clear cI
  go_wp2
  go_loopw [5,6] (fun a b wr=>∃ (kk j:Nat),a=.int .i64 kk∧b=.int .i64 j∧kk<j∧j≤n∧Hid (∃ xs:List Value,wr.ownsRow B 9 1 (.slice (some ⟨g,0,none⟩) n cap) n xs∧(∀ q,j≤q→xs[q]? =(ys.map Value.string)[q]?)∧xs.take kk=(butN (ys.take j) x).map Value.string)∧Hid (w.grownBy wr (some g))) (fun _ b _=>n - (intOf b).toNat)
  case atStart=>exact ⟨i,i+1,by go_num,by go_num,Nat.lt_succ_self _,by omega,I0,HG⟩
  case round=>
   clear I0 HG
   obtain ⟨kk,j,rfl,rfl,hkj,hjn,hI,hG⟩:=hrel
   by_cases hlt:j<n
   ·obtain ⟨xs,ho,hsame,ht⟩:=hI.out
    have jx:j<ys.length:=by have:=HLN.out;omega
    have hgr:g<wr.heap.size:=Nat.lt_of_lt_of_le hglt hG.out.size
    have q1:wr.cell? ⟨g,j,none⟩=some (.string ys[j]):=by rw [ho.cellAt _ (by omega),hsame _ (Nat.le_refl _),List.getElem?_eq_getElem (by rw [List.length_map];exact jx),List.getElem_map]
    have xl:kk<xs.length:=by have:=ho.1;omega
    have hlt':(j:Int)<n:=by omega
    have kz:(kk:Int)<n:=by omega
    have ct:=isX_any ys[j] x box wr (HB.out wr hG.out)
    have hs2:Hid ((butN (ys.take (j+1)) x)=butN (ys.take j) x++(if ys[j]=x then [] else [ys[j]])):=by
     show _=_
     rw [List.take_succ_eq_append_getElem jx,butN_app]
     congr 1
     unfold butN
     by_cases h:ys[j]=x<;>simp [h]
    obtain ⟨D,eD⟩:∃ D:Bool,Hid (decide (ys[j]=x)=D):=⟨decide (ys[j]=x),(show _=_ from rfl)⟩
    rw [eD.out] at ct
    have HT:Hid (xs.take kk=(butN (ys.take j) x).map Value.string):=ht
    have HS:Hid (∀ q,j≤q→xs[q]? =(ys.map Value.string)[q]?):=hsame
    have HO2:Hid (wr.ownsRow B 9 1 (.slice (some ⟨g,0,none⟩) n cap) n xs):=ho
    clear ho hsame ht hI
    generalize ys[j]=Y at*
    have ct2:Hid (Calls Tryz.prog 123 #[.string Y,.pointer (some ⟨box,0,none⟩)] wr fun e w'=>e=.returned (.bool D)∧w'=wr):=ct
    clear ct
    go_wp2_with fail
    refine ct2.out.mono ?_
    rintro e w2 ⟨rfl,hw2⟩
    obtain rfl:=hw2.symm
    clear ct2 q1
    cases D with
    | true=>
     have h1:Y=x:=of_decide_eq_true eD.out
     have I2:Hid (∃ xs:List Value,wr.ownsRow B 9 1 (.slice (some ⟨g,0,none⟩) n cap) n xs∧(∀ q,j+1≤q→xs[q]? =(ys.map Value.string)[q]?)∧xs.take kk=(butN (ys.take (j+1)) x).map Value.string):=⟨xs,HO2.out,fun q hq=>HS.out q (by omega),by rw [hs2.out,if_pos h1,List.append_nil];exact HT.out⟩
     clear HO2 HS HT hs2 eD h1
     go_wp2
     refine ⟨⟨_,_,_,_,_,_,_,_,_,_,_,_,_,_,_,_,_,_,_,_,_,_,_,⟨kk,j+1, ?za, ?zb,by omega,by omega,I2,hG⟩,rfl⟩, ?zm⟩
     case za=>first | rfl | go_num
     case zb=>first | rfl | go_num
     case zm=>simp [intOf];omega
    | false=>
     have h1:¬ Y=x:=of_decide_eq_false eD.out
     obtain ⟨s1,s2⟩:=HO2.out.stored kk (.string Y)
     have I2:Hid (∃ zs:List Value,(wr.setCell ⟨g,kk,none⟩ (.string Y)).ownsRow B 9 1 (.slice (some ⟨g,0,none⟩) n cap) n zs∧(∀ q,j+1≤q→zs[q]? =(ys.map Value.string)[q]?)∧zs.take (kk+1)=(butN (ys.take (j+1)) x).map Value.string):=⟨xs.set kk (.string Y),s1,fun q hq=>by
      rw [List.getElem?_set_ne (by omega)]
      exact HS.out q (by omega),by
      rw [hs2.out,if_neg h1,List.map_append,← HT.out,List.take_succ_eq_append_getElem (by simpa using xl),List.getElem_set_self,List.take_set_of_le (Nat.le_refl _)]
      rfl⟩
     have G4:Hid (w.grownBy (wr.setCell ⟨g,kk,none⟩ (.string Y)) (some g)):=sgrown_trans hG.out s2
     have f1:wr.frozen? ⟨g,kk,none⟩=false:=HO2.out.frozenAt kk
     have f2:wr.cell? ⟨g,kk,none⟩=some xs[kk]:=by rw [HO2.out.cellAt kk (by omega),List.getElem?_eq_getElem xl]
     generalize xs[kk]=Z at f2
     clear HO2 HS HT hs2 eD h1 s1 s2 hG
     go_wp2
     refine ⟨⟨_,_,_,_,_,_,_,_,_,_,_,_,_,_,_,_,_,_,_,_,_,_,_,⟨kk+1,j+1, ?zc, ?zd,by omega,by omega,I2,G4⟩,rfl⟩, ?zn⟩
     case zc=>first | rfl | go_num
     case zd=>first | rfl | go_num
     case zn=>simp [intOf];omega
   ·have hj:j=n:=by omega
    have c3:¬ ((j:Int)<(n:Int)):=by omega
    obtain ⟨xs,ho, -,he⟩:=hI.out
    have hz:Hid (xs.take kk=(butN ys x).map Value.string):=by
     rw [List.take_of_length_le (l:=ys) (by have:=HLN.out;omega)] at he
     exact he
    have kl:kk<n:=by omega
    have hxl:xs.length=n:=by have:=ho.1;omega
    have hcl:∀ ty,(Builtin.clear_ #[22] ty #[.slice (some ⟨g,kk,none⟩) (n - kk) (cap - kk)]).run Tryz.prog wr=.ok (.tuple #[]) (wr.setCells g kk (List.replicate (n - kk) (.string ByteArray.empty))):=
     fun ty=>Lib.run_clear_slice wr _ _ ty _ Tryz.underlying22 Tryz.zeroValue9 rfl rfl g kk _ _ (by omega) (fun q hq=>by rw [ho.cellAt _ (by omega),List.getElem?_eq_getElem (by omega)];rfl) (fun q hq=>ho.frozenAt _)
    obtain ⟨zs,o1,o2,o3⟩:=sown_setCells (List.replicate (n - kk) (.string ByteArray.empty)) kk wr xs ho
    have O4:=sown_take o1 (Nat.le_of_lt kl)
    rw [o2,hz.out] at O4
    have HO4:Hid ((wr.setCells g kk (List.replicate (n - kk) (.string ByteArray.empty))).ownsRow B 9 1 (.slice (some ⟨g,0,none⟩) kk cap) kk ((butN ys x).map Value.string)):=O4
    have HG4:Hid (w.grownBy (wr.setCells g kk (List.replicate (n - kk) (.string ByteArray.empty))) (some g)):=sgrown_trans hG.out o3
    clear O4 o1 o2 o3 ho he hI hG hz
    have kz:(kk:Int)≤n:=by omega
    have kz2:(kk:Int)≤cap:=by omega
    go_wp2
    go_ret
    exact ⟨kk,rfl,HO4.out,HG4.out⟩
theorem swithout_any (ys:List ByteArray) (x:ByteArray) (V:Value) (w:World) (hV:NmsAt w V ys) (hl:ys.length≤1000000000):
  Calls Tryz.prog 90 #[V,.string x] w fun e w'=>∃ v,e=.returned v∧OwnN w.heap.size v (butN ys x) w'∧Below w.heap.size w w':=by
 have cC:Hid (∀ W:World,Below w.heap.size w W→Calls Tryz.prog 122 #[V] W fun e w'=>∃ v',e=.returned v'∧OwnN W.heap.size v' ys w'∧Below W.heap.size W w'):=fun W hW=>by
  obtain ⟨-,p,c,rfl,hc,h | ⟨b,off,rfl,hb,hs⟩⟩:=hV.below hW
  ·subst h
   cases p with
   | none=>exact (Tryz.slices_Clone_string_nil 0 c W).mono (fun e w' h=>⟨_,h.1,by rw [h.2];exact OwnN.nil _ _,by rw [h.2];exact Below.refl _ _⟩)
   | some a=>exact (Tryz.slices_Clone_string_zero a c W).mono (fun e w' ⟨v',h1,h2,h3,h4⟩=>⟨v',h1,h2,h4⟩)
  ·refine (Tryz.slices_Clone_string b off ys.length c ys W (Nat.le_refl _) (by omega) (fun j hj=>by rw [hs j hj];simp [List.getD,hj])).mono (fun e w' ⟨v',h1,h2,h3,h4⟩=>⟨v',h1, ?_,h4⟩)
   rw [List.take_length] at h2
   exact h2
 obtain ⟨p,c,rfl, -⟩:=hV.form
 clear hV
 obtain ⟨n,en⟩:∃ n:Nat,Hid (ys.length=n):=⟨_,rfl⟩
 rw [en.out] at cC hl ⊢
 go_enter Tryz.func90,Tryz.ntmps90
 go_wp2_with fail
 refine (cC.out _ (by go_grown)).mono ?_
 rintro e w1 ⟨v,rfl,hO,hb⟩
 have hB:Below w.heap.size w w1:=Below.trans (by go_grown) (hb.mono (by simp))
 have hbox:w1.cell? ⟨w.heap.size,0,none⟩=some (.string x):=(hb.cell (p:=⟨w.heap.size,0,none⟩) (by simp)).trans (by simp [go_sem])
 have hz:w.heap.size<w1.heap.size:=Nat.lt_of_lt_of_le (by simp) hb.size
 have HO:Hid (OwnN (w.heap.size+1) v ys w1):=by have h:=hO;simp only [World.size_alloc] at h;exact h
 by_cases hv:v=.slice none 0 0
 ·subst hv
  have hy:ys=[]:=by
   obtain ⟨p',c',e, -⟩:=HO.out.cap
   injection e with e1 e2 e3
   exact List.length_eq_zero_iff.1 e2.symm
  have cI:Hid (Calls Tryz.prog 138 #[.slice none 0 0,.func (.func 123) #[] #[.pointer (some ⟨w.heap.size,0,none⟩)]] w1 fun e w'=>e=.returned (.int .i64 (-1))∧w'=w1):=idxN_any [] x _ w.heap.size w1 ⟨by simp,none,0,rfl,by simp,Or.inl rfl⟩ hbox
  have hE:Hid (OwnN w.heap.size (.slice none 0 0) (butN ys x) w1):=by show OwnN _ _ _ _;rw [hy];exact OwnN.nil _ _
  have cD:Hid (Calls Tryz.prog 121 #[.slice none 0 0,.func (.func 123) #[] #[.pointer (some ⟨w.heap.size,0,none⟩)]] w1 fun e w'=>e=.returned (.slice none 0 0)∧w'=w1):=by
   show Calls _ _ _ _ _
   clear hE HO hO hb hB cC
   go_enter Tryz.func121,Tryz.ntmps121
   go_wp2_with fail
   refine cI.out.mono ?_
   rintro e w2 ⟨rfl,hw⟩
   obtain rfl:=hw.symm
   clear cI
   go_wp2
   go_ret
   exact ⟨rfl,rfl⟩
  clear cI HO hO hb cC hbox
  go_wp2_with fail
  refine cD.out.mono ?_
  rintro e w2 ⟨rfl,hw⟩
  obtain rfl:=hw.symm
  clear cD
  go_wp2
  go_ret
  exact ⟨_,rfl,hE.out,hB⟩
 ·have HOr:w1.ownsRow (w.heap.size+1) 9 1 v ys.length (ys.map Value.string):=HO.out
  obtain ⟨g,cap,rfl,hg⟩:∃ g cap,v=.slice (some ⟨g,0,none⟩) n cap∧w.heap.size+1≤g:=by
   obtain ⟨-,⟨e, -⟩ | ⟨g',cap',cur,e,h1, -⟩⟩:=HOr
   ·exact absurd e hv
   ·exact ⟨g',cap',by rw [e,en.out],h1⟩
  rw [en.out] at HOr
  have cD:Hid (Calls Tryz.prog 121 #[.slice (some ⟨g,0,none⟩) n cap,.func (.func 123) #[] #[.pointer (some ⟨w.heap.size,0,none⟩)]] w1 fun e w'=>∃ m,e=.returned (.slice (some ⟨g,0,none⟩) m cap)∧w'.ownsRow (w.heap.size+1) 9 1 (.slice (some ⟨g,0,none⟩) m cap) m ((butN ys x).map Value.string)∧w1.grownBy w' (some g)):=del_any n cap g (w.heap.size+1) w.heap.size ys x w1 HOr hbox hz (by omega)
  clear HO HOr hO hb cC hbox hv
  go_wp2_with fail
  refine cD.out.mono ?_
  rintro e w2 ⟨m,rfl,ho,hg2⟩
  have hB2:Below w.heap.size w w2:=hB.grown hg2 (by omega) (fun q hq=>by injection hq with hq;omega)
  have hm:m=(butN ys x).length:=by have:=ho.1;rw [List.length_map] at this;omega
  have HE:Hid (OwnN w.heap.size (.slice (some ⟨g,0,none⟩) m cap) (butN ys x) w2):=by
   show World.ownsRow _ _ _ _ _ _ _
   rw [← hm]
   exact own_monoB ho (by omega)
  clear cD ho hg2 hm
  go_wp2
  go_ret
  exact ⟨_,rfl,HE.out,hB2⟩
end Go.Proofs.YthodedagbbifbaaGreat
namespace Go.Proofs.YthodedagbbifbaaGreat
open Go.RowKit LX Go.Shelf Go.Sort
set_option linter.unusedVariables false
theorem lsts_pair {W:World} {b:Nat} {u v:Value} {xs ys:List ByteArray} (hb:b<W.heap.size) (h0:W.cell? ⟨b,0,none⟩=some u) (h1:W.cell? ⟨b,1,none⟩=some v) (hx:NmsAt W u xs) (hy:NmsAt W v ys):LstsAt W (.slice (some ⟨b,0,none⟩) 2 2) [u,v] [xs,ys]:=by
 refine ⟨rfl,_,_,rfl,fun k hk=>⟨b,0,rfl,hb, ?_⟩,fun k hk ky=> ?_⟩
 ·rcases k with _ | _ | k
  ·exact h0
  ·exact h1
  ·simp at hk;omega
 ·rcases k with _ | _ | k
  ·exact hx
  ·exact hy
  ·simp at hk;omega
theorem bareIn_any (f:Fm) (q:FQ) (ps:List Pt) (V:Value) (w:World) (hq:QAt w (f,q)) (hP:PtLst w V ps) (h20:f.k=20→1<ps.length) (hb:((ps.map fun p=>p.about.bare).flatten).length≤100000000):
  Calls Tryz.prog 53 #[.agg #[.int .i64 f.k,.string f.nm,.int .i64 f.op,q.v,q.t,.int .i64 f.lo,.int .i64 f.hi,.bool f.opn,q.s,q.r],V] w fun e w'=>∃ v,e=.returned v∧NmsT w' v (barIn f ps)∧Below w.heap.size w w':=by
 have CA:Hid (∀ (a:Bool) (r:Int) (pv pb:Option Addr) (nv nb cv cb:Nat) (W:World),Calls Tryz.prog 197 #[.agg #[.slice pv nv cv,.bool a,.int .i64 r,.slice pb nb cb]] W fun e w'=>e=.returned (.agg #[.slice pv nv cv,.bool a,.int .i64 r,.slice pb nb cb])∧Below W.heap.size W w'):=fun a r pv pb nv nb cv cb W=>about_fx (.bool true) (.bool true) a r pv pb nv nb cv cb W
 have cB:Hid (∀ W:World,Below w.heap.size w W→Calls Tryz.prog 91 #[V] W fun e w'=>∃ v,e=.returned v∧OwnN W.heap.size v (bareP ps) w'∧Below W.heap.size W w'):=fun W hW=>bareOf_any ps V W (hP.below hW) (by omega)
 have lB:(bareP ps).length≤100000000:=by have:=uniN_len [(ps.map fun p=>p.about.bare).flatten];unfold bareP;simp only [List.flatten_cons,List.flatten_nil,List.append_nil] at this ⊢;omega
 have cW:Hid (∀ (W:World) (X:Value) (ys:List ByteArray),NmsAt W X ys→ys.length≤1000000000→Calls Tryz.prog 90 #[X,.string f.nm] W fun e w'=>∃ v,e=.returned v∧OwnN W.heap.size v (butN ys f.nm) w'∧Below W.heap.size W w'):=fun W X ys h1 h2=>swithout_any ys f.nm X W h1 h2
 obtain ⟨⟨pv,cv,ev⟩,⟨pt,ct,et⟩,⟨ps_,cs,es⟩,⟨pr,cr,er⟩⟩:=sfm_forms hq
 rw [ev,et,es,er]
 by_cases h3:f.k=3
 ·have hR:Hid (barIn f ps=[f.nm]):=by show _=_;unfold barIn;rw [if_pos h3]
  rw [hR.out]
  obtain ⟨p,c,eV, -⟩:=hP
  subst eV
  generalize ps.length=np at*
  clear hq cB cW CA ev et es er h20 hb lB hR
  rw [h3]
  clear h3
  generalize f.vars.length=nv at*
  generalize f.terms.length=nt at*
  generalize f.subs.length=ns at*
  generalize f.rgx.length=nr at*
  generalize f.nm=nm at*
  generalize f.op=op at*
  generalize f.lo=lo at*
  generalize f.hi=hi at*
  generalize f.opn=o at*
  go_enter Tryz.func53,Tryz.ntmps53
  go_wp2
  go_ret
  exact ⟨_,rfl,⟨⟨by simp,_,_,rfl,by simp,Or.inr ⟨_,0,rfl,by simp,fun i hi=>by
   have:i=0:=by simp at hi;omega
   subst this
   simp (maxDischargeDepth:=12) [go_sem]⟩⟩,fun b off n c e hne=>by
   injection e with e
   injection e with e
   injection e with e
   subst e
   have hh:∀ (o1 o2:Obj),((w.alloc o1).alloc o2).heap[w.heap.size+1]? =some o2:=fun o1 o2=>by
    have h:=heap_allocA (w.alloc o1) o2
    simpa using h
   exact ⟨_,_,hh _ _⟩⟩,by go_grown⟩
 by_cases h11:f.k=11
 ·have hR:Hid (barIn f ps=[]):=by show _=_;unfold barIn;rw [if_neg (by omega),if_pos h11]
  rw [hR.out]
  obtain ⟨p,c,eV, -⟩:=hP
  subst eV
  generalize ps.length=np at*
  clear hq cB cW CA ev et es er h20 hb lB hR h3
  rw [h11]
  clear h11
  generalize f.vars.length=nv at*
  generalize f.terms.length=nt at*
  generalize f.subs.length=ns at*
  generalize f.rgx.length=nr at*
  generalize f.nm=nm at*
  generalize f.op=op at*
  generalize f.lo=lo at*
  generalize f.hi=hi at*
  generalize f.opn=o at*
  go_enter Tryz.func53,Tryz.ntmps53
  go_wp2
  go_ret
  exact ⟨_,rfl,NmsT.nil,by go_grown⟩
 by_cases h20k:f.k=20
 ·have h1:=h20 h20k
  have hR:Hid (barIn f ps=uniN [(ptN ps 0).about.bare,butN (ptN ps 1).about.bare f.nm]):=by show _=_;unfold barIn;rw [if_neg (by omega),if_neg (by omega),if_pos h20k]
  rw [hR.out]
  obtain ⟨b,off,c,u0,u1,rfl,hbl,e0,e1,p0,p1⟩:=hP.two h1
  have hl0:(ptN ps 0).about.bare.length≤100000000:=by
   rw [ptN_get (by omega)]
   have:=flat_get (ps.map fun p=>p.about.bare) 0 (by rw [List.length_map];omega)
   rw [List.getElem_map] at this
   omega
  have hl1:(ptN ps 1).about.bare.length≤100000000:=by
   rw [ptN_get (by omega)]
   have:=flat_get (ps.map fun p=>p.about.bare) 1 (by rw [List.length_map];omega)
   rw [List.getElem_map] at this
   omega
  have hlb:(butN (ptN ps 1).about.bare f.nm).length≤100000000:=Nat.le_trans (List.length_filter_le ..) hl1
  obtain ⟨T0,vv0,pv0,pb0,cv0,cb0,rfl, -,hn0,hm0⟩:=p0.abt
  obtain ⟨T1,vv1,pv1,pb1,cv1,cb1,rfl, -,hn1,hm1⟩:=p1.abt
  have HN0:Hid (NmsAt w (.slice pb0 (ptN ps 0).about.bare.length cb0) (ptN ps 0).about.bare):=hn0
  have cW1:Hid (∀ W:World,Below w.heap.size w W→Calls Tryz.prog 90 #[.slice pb1 (ptN ps 1).about.bare.length cb1,.string f.nm] W fun e w'=>∃ v,e=.returned v∧OwnN W.heap.size v (butN (ptN ps 1).about.bare f.nm) w'∧Below W.heap.size W w'):=fun W hW=>cW.out W _ _ (hn1.below hW) (by omega)
  obtain ⟨X0,eX0⟩:∃ X,Hid ((ptN ps 0).about.bare=X):=⟨_,rfl⟩
  obtain ⟨X1,eX1⟩:∃ X,Hid (butN (ptN ps 1).about.bare f.nm=X):=⟨_,rfl⟩
  rw [eX0.out] at hl0 hm0 HN0
  rw [eX1.out] at hlb cW1
  rw [eX0.out,eX1.out]
  have HU:Hid (∀ (W:World) (b v:Nat) (x:Value),b<W.heap.size→W.cell? ⟨b,0,none⟩=some (.slice pb0 X0.length cb0)→W.cell? ⟨b,1,none⟩=some x→NmsAt W (.slice pb0 X0.length cb0) X0→NmsAt W x X1→Calls Tryz.prog 89 #[.slice (some ⟨b,0,none⟩) 2 2] W fun e w'=>∃ v,e=.returned v∧OwnN W.heap.size v (uniN [X0,X1]) w'∧Below W.heap.size W w'):=fun W b v x hb h0 h1 hx hy=>
   sunion_any _ [.slice pb0 X0.length cb0,x] [X0,X1] W (lsts_pair hb h0 h1 hx hy) (by simp;omega) (by simp)
  have hlu:(uniN [X0,X1]).length≤1000000000:=by have:=uniN_len [X0,X1];simp at this;omega
  generalize ps.length=np at*
  clear hq hP cB cW ev et es er h20 hb lB hR h3 h11 p0 p1 hn0 hn1 eX0 eX1 hl1
  rw [h20k]
  clear h20k
  generalize (ptN ps 0).about.acc=A0 at*
  generalize (ptN ps 0).about.reach=r0 at*
  generalize (ptN ps 0).about.vars.length=n0 at*
  generalize (ptN ps 1).about.acc=A1 at*
  generalize (ptN ps 1).about.reach=r1 at*
  generalize (ptN ps 1).about.vars.length=n1 at*
  generalize (ptN ps 1).about.bare.length=b1 at*
  generalize f.vars.length=nv at*
  generalize f.terms.length=nt at*
  generalize f.subs.length=ns at*
  generalize f.rgx.length=nr at*
  generalize f.nm=nm at*
  generalize f.op=op at*
  generalize f.lo=lo at*
  generalize f.hi=hi at*
  generalize f.opn=o at*
  have hnp0:0<np:=by omega
  have hnp:(1:Int)<(np:Int):=by omega
  have hnp0':(0:Int)<(np:Int):=by omega
  have hfd:=fld_bare
  go_enter Tryz.func53,Tryz.ntmps53
  go_upto_region 7 with fail
  refine wp_world ?_
  intro W0 hW0
  have KW0:Below w.heap.size w W0:=by rw [hW0];go_grown
  have LW0:w.heap.size<W0.heap.size:=by rw [hW0];first | (simp;done) | (simp;omega)
  have q1:W0.cell? ⟨w.heap.size,1,none⟩=some (.string nm):=by rw [hW0];simp (maxDischargeDepth:=12) [go_sem]
  have q20:W0.cell? ⟨b,off,none⟩=some (.iface T0 vv0):=(KW0.cell (p:=⟨b,off,none⟩) hbl).trans e0
  have q21:W0.cell? ⟨b,off+1,none⟩=some (.iface T1 vv1):=(KW0.cell (p:=⟨b,off+1,none⟩) hbl).trans e1
  have hblW:b<W0.heap.size:=Nat.lt_of_lt_of_le hbl KW0.size
  clear hW0
  clear e0 e1
  go_region_held3 (fun W=>W.cell? ⟨w.heap.size,1,none⟩=some (.string nm)∧W.cell? ⟨b,off,none⟩=some (.iface T0 vv0)∧W.cell? ⟨b,off+1,none⟩=some (.iface T1 vv1)) (exact ⟨bcl (n:=W0.heap.size) (by go_grown) q1 LW0,bcl (n:=W0.heap.size) (by go_grown) q20 hblW,bcl (n:=W0.heap.size) (by go_grown) q21 hblW⟩)
   (first
    | (go_at_call_of 197 (Value.bool A0);refine (CA.out _ _ _ _ _ _ _ _ _).mono ?_;rintro e v1 ⟨rfl,hb1⟩;obtain ⟨hX1,hn1⟩:=bgX (n:=W0.heap.size) (W0:=W0) (by go_grown) (by go_size) hb1)
    | (go_at_call_of 197 (Value.bool A1);refine (CA.out _ _ _ _ _ _ _ _ _).mono ?_;rintro e v2 ⟨rfl,hb2⟩;obtain ⟨hX2,hn2⟩:=bgX (n:=W0.heap.size) (W0:=W0) (by go_grown) (by go_size) hb2)
    | (go_at_call 90;refine (cW1.out _ (KW0.trans (Below.mono (B:=W0.heap.size) (by go_grown) KW0.size))).mono ?_;rintro e v3 ⟨x3,rfl,hO3,hb3⟩;obtain ⟨p3,c3,rfl, -⟩:=hO3.cap;have hN3:=hO3.nms (by omega);obtain ⟨hX3,hn3⟩:=bgX (n:=W0.heap.size) (W0:=W0) (by go_grown) (by go_size) hb3)
    | (go_at_call 89;refine (HU.out _ v3.heap.size 0 _ (by simp) (by simp (maxDischargeDepth:=12) [go_sem]) (by simp (maxDischargeDepth:=12) [go_sem]) (HN0.out.below (KW0.trans (Below.mono (B:=W0.heap.size) (by go_grown) KW0.size))) (hN3.below ((Below.refl _ _).alloc (Nat.le_refl _) _))).mono ?_;rintro e v4 ⟨x4,rfl,hO4,hb4⟩;have hN4:=hO4.nmsT (by omega);obtain ⟨p4,c4,rfl, -⟩:=hO4.cap;obtain ⟨hX4,hn4⟩:=bgX (n:=W0.heap.size) (W0:=W0) (by go_grown) (by go_size) hb4))
  all_goals
   go_wp2
   go_ret
   exact ⟨_,rfl,hN4,KW0.trans (Below.mono (B:=W0.heap.size) (by first | assumption | go_grown) KW0.size)⟩
 by_cases h21:f.k=21
 ·have hR:Hid (barIn f ps=butN (bareP ps) f.nm):=by show _=_;unfold barIn;rw [if_neg (by omega),if_neg (by omega),if_neg (by omega),if_pos h21]
  rw [hR.out]
  have hlb:(butN (bareP ps) f.nm).length≤100000000:=Nat.le_trans (List.length_filter_le ..) lB
  have cW1:Hid (∀ (W:World) (X:Value),NmsAt W X (bareP ps)→Calls Tryz.prog 90 #[X,.string f.nm] W fun e w'=>∃ v,e=.returned v∧OwnN W.heap.size v (butN (bareP ps) f.nm) w'∧Below W.heap.size W w'):=fun W X h=>cW.out W X _ h (by omega)
  obtain ⟨p,c,eV, -⟩:=hP
  subst eV
  clear hq CA cW ev et es er h20 hb hR h3 h11 h20k
  generalize butN (bareP ps) f.nm=X1 at*
  generalize bareP ps=X0 at*
  generalize ps.length=np at*
  rw [h21]
  clear h21
  generalize f.vars.length=nv at*
  generalize f.terms.length=nt at*
  generalize f.subs.length=ns at*
  generalize f.rgx.length=nr at*
  generalize f.nm=nm at*
  generalize f.op=op at*
  generalize f.lo=lo at*
  generalize f.hi=hi at*
  generalize f.opn=o at*
  go_enter Tryz.func53,Tryz.ntmps53
  go_upto_region 9 with fail
  refine wp_world ?_
  intro W0 hW0
  have KW0:Below w.heap.size w W0:=by rw [hW0];go_grown
  have LW0:w.heap.size<W0.heap.size:=by rw [hW0];first | (simp;done) | (simp;omega)
  have q1:W0.cell? ⟨w.heap.size,1,none⟩=some (.string nm):=by rw [hW0];simp (maxDischargeDepth:=12) [go_sem]
  clear hW0
  go_region_held3 (fun W=>W.cell? ⟨w.heap.size,1,none⟩=some (.string nm)) (exact bcl (n:=W0.heap.size) (by go_grown) q1 LW0)
   (first
    | (go_at_call 91;refine (cB.out _ (KW0.trans (Below.mono (B:=W0.heap.size) (by go_grown) KW0.size))).mono ?_;rintro e v3 ⟨x3,rfl,hO3,hb3⟩;obtain ⟨p3,c3,rfl, -⟩:=hO3.cap;have hN3:=hO3.nms (by omega);obtain ⟨hX3,hn3⟩:=bgX (n:=W0.heap.size) (W0:=W0) (by go_grown) (by go_size) hb3)
    | (go_at_call 90;refine (cW1.out _ _ hN3).mono ?_;rintro e v4 ⟨x4,rfl,hO4,hb4⟩;have hN4:=hO4.nmsT (by omega);obtain ⟨p4,c4,rfl, -⟩:=hO4.cap;obtain ⟨hX4,hn4⟩:=bgX (n:=W0.heap.size) (W0:=W0) (by go_grown) (by go_size) hb4))
  all_goals
   go_wp2
   go_ret
   exact ⟨_,rfl,hN4,KW0.trans (Below.mono (B:=W0.heap.size) (by first | assumption | go_grown) KW0.size)⟩
 ·have hR:Hid (barIn f ps=bareP ps):=by show _=_;unfold barIn;rw [if_neg (by omega),if_neg (by omega),if_neg (by omega),if_neg (by omega)]
  rw [hR.out]
  obtain ⟨p,c,eV, -⟩:=hP
  subst eV
  clear hq CA cW ev et es er h20 hb hR
  generalize bareP ps=X0 at*
  generalize ps.length=np at*
  generalize f.vars.length=nv at*
  generalize f.terms.length=nt at*
  generalize f.subs.length=ns at*
  generalize f.rgx.length=nr at*
  generalize f.nm=nm at*
  generalize f.op=op at*
  generalize f.lo=lo at*
  generalize f.hi=hi at*
  generalize f.opn=o at*
  generalize f.k=k at*
  go_enter Tryz.func53,Tryz.ntmps53
  go_wp2_with fail
  refine (cB.out _ (by go_grown)).mono ?_
  rintro e w1 ⟨x3,rfl,hO3,hb3⟩
  have hN3:=hO3.nmsT (by omega)
  obtain ⟨p3,c3,rfl, -⟩:=hO3.cap
  have hB:Below w.heap.size w w1:=Below.trans (by go_grown) (hb3.mono (by simp))
  clear hO3 hb3 cB
  go_wp2
  go_ret
  exact ⟨_,rfl,hN3,hB⟩
theorem reachIn_any (e0:Env) (pe:Option Addr) (f:Fm) (q:FQ) (ps:List Pt) (V:Value) (w:World) (hE:EnvAt w pe e0) (hq:QAt w (f,q)) (hP:PtLst w V ps) (h20:f.k=20∨f.k=21→1<ps.length) (hf:0≤farP ps∧farP ps≤4611686018427387904) (hh:f.k=12∨f.k=14∨f.k=16∨f.k=18→0≤f.hi∧f.hi≤1099511627776):
  Calls Tryz.prog 52 #[.pointer pe,.agg #[.int .i64 f.k,.string f.nm,.int .i64 f.op,q.v,q.t,.int .i64 f.lo,.int .i64 f.hi,.bool f.opn,q.s,q.r],V] w fun e w'=>e=.returned (.int .i64 (rchIn e0 f ps))∧Below w.heap.size w w':=by
 have CA:Hid (∀ (a:Bool) (r:Int) (pv pb:Option Addr) (nv nb cv cb:Nat) (W:World),Calls Tryz.prog 197 #[.agg #[.slice pv nv cv,.bool a,.int .i64 r,.slice pb nb cb]] W fun e w'=>e=.returned (.agg #[.slice pv nv cv,.bool a,.int .i64 r,.slice pb nb cb])∧Below W.heap.size W w'):=fun a r pv pb nv nb cv cb W=>about_fx (.bool true) (.bool true) a r pv pb nv nb cv cb W
 have cF:Hid (∀ W:World,Below w.heap.size w W→Calls Tryz.prog 88 #[V] W fun e w'=>e=.returned (.int .i64 (farP ps))∧Below W.heap.size W w'):=fun W hW=>farthest_any ps V W (hP.below hW)
 have cR:Hid (∀ W:World,Below w.heap.size w W→Calls Tryz.prog 87 #[.pointer pe,.string f.nm] W fun e w'=>e=.returned (.int .i64 (rchOf e0 f.nm))∧Below W.heap.size W w'):=fun W hW=>reachOf_any e0 pe f.nm W (hE.bel hW)
 obtain ⟨⟨pv,cv,ev⟩,⟨pt,ct,et⟩,⟨ps_,cs,es⟩,⟨pr,cr,er⟩⟩:=sfm_forms hq
 rw [ev,et,es,er]
 by_cases h3:f.k=3
 ·have hR:Hid (rchIn e0 f ps=rchOf e0 f.nm):=by show _=_;unfold rchIn;rw [if_pos h3]
  rw [hR.out]
  obtain ⟨p,c,eV, -⟩:=hP
  subst eV
  clear hq cF CA ev et es er h20 hf hh hR hE
  generalize rchOf e0 f.nm=R at*
  generalize ps.length=np at*
  rw [h3]
  clear h3
  generalize f.vars.length=nv at*
  generalize f.terms.length=nt at*
  generalize f.subs.length=ns at*
  generalize f.rgx.length=nr at*
  generalize f.nm=nm at*
  generalize f.op=op at*
  generalize f.lo=lo at*
  generalize f.hi=hi at*
  generalize f.opn=o at*
  go_enter Tryz.func52,Tryz.ntmps52
  go_wp2_with fail
  refine (cR.out _ (by go_grown)).mono ?_
  rintro e w1 ⟨rfl,hb1⟩
  have hB:Below w.heap.size w w1:=Below.trans (by go_grown) (hb1.mono (by simp))
  clear hb1 cR
  go_wp2
  go_ret
  exact ⟨rfl,hB⟩
 by_cases h12:f.k=12∨f.k=14∨f.k=16∨f.k=18
 ·have hR:Hid (rchIn e0 f ps=f.hi+farP ps):=by show _=_;unfold rchIn;rw [if_neg h3,if_pos h12]
  rw [hR.out]
  obtain ⟨hh1,hh2⟩:=hh h12
  obtain ⟨hf1,hf2⟩:=hf
  obtain ⟨p,c,eV, -⟩:=hP
  subst eV
  clear hq cR CA ev et es er h20 hh hR hE h3
  generalize farP ps=R at*
  generalize ps.length=np at*
  generalize f.vars.length=nv at*
  generalize f.terms.length=nt at*
  generalize f.subs.length=ns at*
  generalize f.rgx.length=nr at*
  generalize f.nm=nm at*
  generalize f.op=op at*
  generalize f.lo=lo at*
  generalize f.hi=hi at*
  generalize f.opn=o at*
  have main:∀ k:Int,k=12∨k=14∨k=16∨k=18→Calls Tryz.prog 52 #[.pointer pe,.agg #[.int .i64 k,.string nm,.int .i64 op,.slice pv nv cv,.slice pt nt ct,.int .i64 lo,.int .i64 hi,.bool o,.slice ps_ ns cs,.slice pr nr cr],.slice p np c] w fun e w'=>e=.returned (.int .i64 (hi+R))∧Below w.heap.size w w':=by
   intro k hk
   have hw:IntKind.i64.wrap (hi+R)=hi+R:=by rw [IntKind.wrap_i64];omega
   rcases hk with rfl | rfl | rfl | rfl
   all_goals
    go_enter Tryz.func52,Tryz.ntmps52
    go_upto_region 8 with fail
    refine wp_world ?_
    intro W0 hW0
    have KW0:Below w.heap.size w W0:=by rw [hW0];go_grown
    have LW0:w.heap.size<W0.heap.size:=by rw [hW0];first | (simp;done) | (simp;omega)
    have q6:W0.cell? ⟨w.heap.size,6,none⟩=some (.int .i64 hi):=by rw [hW0];simp (maxDischargeDepth:=12) [go_sem]
    clear hW0
    have hcf:∀ nq osq,Calls Tryz.prog 88 #[.slice p np c] (grow (W0.drewN nq) osq) fun e w'=>e=.returned (.int .i64 R)∧∃ q os',w'=grow ((grow (W0.drewN nq) osq).drewN q) os':=fun nq osq=>(Calls.drawn (cF.out (grow (W0.drewN nq) osq) (KW0.trans ((sBelow_grow W0 nq osq).mono KW0.size)))).mono fun e w' ⟨he,hb,hd⟩=>⟨he,grown_of_below hb hd⟩
    have c6:∀ nq osq,(grow (W0.drewN nq) osq).cell? ⟨w.heap.size,6,none⟩=some (.int .i64 hi):=fun nq osq=>by rw [scell_grow W0 nq osq LW0];exact q6
    have mixed:Tryz.prog.follows .mixedOrders=true:=by kernel_rfl
    go_quiet_grown (first | (go_at_call 88;refine Calls.grown_of (hcf _ _)))
    have hw_:Below W0.heap.size W0 (grow (W0.drewN nq) osq):=sBelow_grow W0 nq osq
    clear hcf c6
    generalize grow (W0.drewN nq) osq=v1 at hw_ ⊢
    have Kv1:Below w.heap.size w v1:=KW0.trans (hw_.mono KW0.size)
    clear hw_
    go_wp2
    go_ret
    exact ⟨by first | rfl | rw [hw],by go_grown⟩
  exact main f.k h12
 by_cases h2k:f.k=20∨f.k=21
 ·have h1:=h20 h2k
  have hR:Hid (rchIn e0 f ps=(ptN ps 1).about.reach):=by show _=_;unfold rchIn;rw [if_neg h3,if_neg h12,if_pos h2k]
  rw [hR.out]
  obtain ⟨b,off,c,u0,u1,rfl,hbl,e0_,e1,p0,p1⟩:=hP.two h1
  obtain ⟨T1,vv1,pv1,pb1,cv1,cb1,rfl, -, -,hm1⟩:=p1.abt
  generalize ps.length=np at*
  clear hq hP cR cF ev et es er h20 hh hf hR hE h3 h12 p0 p1 e0_
  generalize (ptN ps 1).about.acc=A1 at*
  generalize (ptN ps 1).about.reach=r1 at*
  generalize (ptN ps 1).about.vars.length=n1 at*
  generalize (ptN ps 1).about.bare.length=b1 at*
  generalize f.vars.length=nv at*
  generalize f.terms.length=nt at*
  generalize f.subs.length=ns at*
  generalize f.rgx.length=nr at*
  generalize f.nm=nm at*
  generalize f.op=op at*
  generalize f.lo=lo at*
  generalize f.hi=hi at*
  generalize f.opn=o at*
  have hnp:(1:Int)<(np:Int):=by omega
  have hfd:=fld_reach
  have main:∀ k:Int,k=20∨k=21→Calls Tryz.prog 52 #[.pointer pe,.agg #[.int .i64 k,.string nm,.int .i64 op,.slice pv nv cv,.slice pt nt ct,.int .i64 lo,.int .i64 hi,.bool o,.slice ps_ ns cs,.slice pr nr cr],.slice (some ⟨b,off,none⟩) np c] w fun e w'=>e=.returned (.int .i64 r1)∧Below w.heap.size w w':=by
   intro k hk
   rcases hk with rfl | rfl
   all_goals
    go_enter Tryz.func52,Tryz.ntmps52
    go_wp2_with fail
    refine (CA.out _ _ _ _ _ _ _ _ _).mono ?_
    rintro e w1 ⟨rfl,hb1⟩
    have hB:Below w.heap.size w w1:=Below.trans (by go_grown) (hb1.mono (by simp))
    clear hb1
    go_wp2
    go_ret
    exact ⟨rfl,hB⟩
  exact main f.k h2k
 ·have hR:Hid (rchIn e0 f ps=farP ps):=by show _=_;unfold rchIn;rw [if_neg h3,if_neg h12,if_neg h2k]
  rw [hR.out]
  have g1:¬ f.k=12:=by omega
  have g2:¬ f.k=14:=by omega
  have g3:¬ f.k=16:=by omega
  have g4:¬ f.k=18:=by omega
  have g5:¬ f.k=20:=by omega
  have g6:¬ f.k=21:=by omega
  obtain ⟨p,c,eV, -⟩:=hP
  subst eV
  clear hq cR CA ev et es er h20 hh hf hR hE h12 h2k
  generalize farP ps=R at*
  generalize ps.length=np at*
  generalize f.vars.length=nv at*
  generalize f.terms.length=nt at*
  generalize f.subs.length=ns at*
  generalize f.rgx.length=nr at*
  generalize f.nm=nm at*
  generalize f.op=op at*
  generalize f.lo=lo at*
  generalize f.hi=hi at*
  generalize f.opn=o at*
  generalize f.k=k at*
  go_enter Tryz.func52,Tryz.ntmps52
  go_wp2_with fail
  refine (cF.out _ (by go_grown)).mono ?_
  rintro e w1 ⟨rfl,hb1⟩
  have hB:Below w.heap.size w w1:=Below.trans (by go_grown) (hb1.mono (by simp))
  clear hb1 cF
  go_wp2
  go_ret
  exact ⟨rfl,hB⟩
end Go.Proofs.YthodedagbbifbaaGreat
