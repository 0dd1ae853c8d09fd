/- What the claims of this seat share: base. -/
import Derived.Test.YticnfeolbfmgfaaGreatDoorZ06
import Derived.Deep.RegionLaw
import Derived.Deep.DeepCutAuto
set_option maxRecDepth 100000
set_option maxHeartbeats 8000000
namespace Go.Proofs.YticnfeolbfmgfaaGreatDoor
open Go.RowKit LX Go.Shelf
set_option linter.unusedVariables false
theorem fms_none (P:Nat→Prop) (w:World):FmsOwn P w (.slice none 0 0) []:=.mk [] rfl (by decide) ⟨rfl,Or.inl ⟨rfl,rfl⟩⟩ (fun q hq=>by cases hq) (fun x hx=>by cases hx) (fun x hx=>by cases hx) (fun x hx=>by cases hx) (fun x hx=>by cases hx)
theorem rxs_none (P:Nat→Prop) (w:World):RxsOwn P w (.slice none 0 0) []:=.mk [] rfl (by decide) ⟨rfl,Or.inl ⟨rfl,rfl⟩⟩ (fun q hq=>by cases hq) (fun x hx=>by cases hx) (fun x hx=>by cases hx)
def pR2 (sz:Nat) (ph:List (Tok Val)→Rd Rx) (u:List (Tok Val)):Rd Rx:=(ph u).bind fun f r'=>(rExp sz [41] r').bind fun _ r''=>.ok f r''
theorem pRegex_eq (sz n:Nat) (pf:List (Tok Val)→Rd Fm) (pr:List (Tok Val)→Rd Rx) (d:Int) (ts:List (Tok Val)) (hd:¬ (24<d∧(tkH sz ts).k≠0)) (hok:∀ t∈ts,TkOk t):∃ u,pRegex sz n pf pr d ts=(if (tkH sz ts).x=[97,110,121] then .ok (rxO 1 [] []) u else if (tkH sz ts).x=[40] then pR2 sz (pHeadR sz n pf pr) u else .bad 70 (tkH sz ts).at_)∧((tkH sz ts).x≠[]→∃ t,ts=t::u):=by
 cases ts with
 | nil=>exact ⟨[],rfl,fun h=>absurd rfl h⟩
 | cons t r=>
  have hk:t.k≠0:=(hok t (by simp)).2.1
  have hd':¬ 24<d:=fun h=>hd ⟨h,hk⟩
  refine ⟨r, ?_,fun _=>⟨t,rfl⟩⟩
  rw [pRegex,rBeg,if_neg hd',Rd.bind_ok]
  rfl
theorem pRegex_deep (sz n:Nat) (pf:List (Tok Val)→Rd Fm) (pr:List (Tok Val)→Rd Rx) (d:Int) (ts:List (Tok Val)) (hd:24<d∧(tkH sz ts).k≠0):pRegex sz n pf pr d ts=.bad 71 (tkH sz ts).at_:=by
 cases ts with
 | nil=>exact absurd rfl hd.2
 | cons t r=>rw [pRegex,rBeg,if_pos hd.1,Rd.bind_bad];rfl
theorem regex_deep (m R sz:Nat) (ts:List (Tok Val)) (d:Int) (w:World) (h:RdAt m w R sz ts) (hd:24<d∧(tkH sz ts).k≠0):Calls Tryz.prog 188 #[.pointer (some ⟨R,0,none⟩),.int .i64 d] w (RdO m R sz w (RxV w) (.bad 71 (tkH sz ts).at_)):=by
 have CB:Hid (∀ W:World,Below w.heap.size w W→Calls Tryz.prog 74 #[.pointer (some ⟨R,0,none⟩),.int .i64 d] W fun e w'=>e=faultE 71 (tkH sz ts).at_∧Fr (fun k=>k=R) W w'):=fun W hW=>begin_deep m R sz ts d W (h.below hW) hd.1 hd.2
 generalize (tkH sz ts).at_=ta at*
 go_enter Tryz.func188,Tryz.ntmps188
 go_wp2_with fail
 refine (CB.out _ (by go_grown)).mono ?_
 rintro e w1 ⟨rfl,hF⟩
 exact ⟨rfl,rfl,((Fr.refl (fun k=>k=R) w).alloc _).trans hF (fun k e=>Or.inl e)⟩
theorem regex_one (m R sz:Nat) (ts:List (Tok Val)) (d:Int) (w:World) (h:RdAt m w R sz ts) (hd:¬ (24<d∧(tkH sz ts).k≠0)) (hx:(tkH sz ts).x=[97,110,121]) (t0:Tok Val) (u:List (Tok Val)) (hT:ts=t0::u):Calls Tryz.prog 188 #[.pointer (some ⟨R,0,none⟩),.int .i64 d] w (RdO m R sz w (RxV w) (.ok (rxO 1 [] []) u)):=by
 have CB:Hid (∀ W:World,Below w.heap.size w W→Calls Tryz.prog 74 #[.pointer (some ⟨R,0,none⟩),.int .i64 d] W (NxO m R sz ts W (.agg #[.int .i64 (tkH sz ts).k,.int .i64 (tkH sz ts).at_,.string (txB (tkH sz ts)),.int .i64 (tkH sz ts).v.k,.int .i64 (tkH sz ts).v.n,.int .i64 (tkH sz ts).v.d,.string (tkH sz ts).v.s]))):=fun W hW=>begin_any m R sz ts d W (h.below hW) hd
 have rh1:Hid (∀ W:World,Calls Tryz.prog 84 #[.int .i64 1] W fun e w'=>e=.returned (.string ⟨#[97,110,121]⟩)∧w'=W):=fun W=>regexHead_any 1 W
 have hlt:=h.lt
 have hx2:((txB (tkH sz ts)).toList==[97,110,121])=true:=by rw [beq_data];exact decide_eq_true hx
 generalize (tkH sz ts).k=tk at*
 generalize (tkH sz ts).at_=ta at*
 generalize txB (tkH sz ts)=tx at*
 generalize (tkH sz ts).v.k=vk at*
 generalize (tkH sz ts).v.n=vn at*
 generalize (tkH sz ts).v.d=vd at*
 generalize (tkH sz ts).v.s=vs at*
 go_enter Tryz.func188,Tryz.ntmps188
 go_wp2_with fail
 refine (CB.out _ (by go_grown)).mono ?_
 rintro e w1 ⟨rfl,hF,hN⟩
 have z1:w.heap.size<w1.heap.size:=by have:=hF.size;simp at this;omega
 have X1:Hid (w1.heap[w.heap.size]? =some (.cells #[.int .i64 0,.slice none 0 0,.slice none 0 0] 91 (0,0))):=hF.heap (new_box w _) (fun e=>by omega)
 have F1:Hid (Fr (fun k=>k=R) w w1):=((Fr.refl (fun k=>k=R) w).alloc _).trans hF (fun k e=>Or.inl e)
 have N1:Hid (∀ t r,ts=t::r→RdAt m w1 R sz r):=hN
 clear hF hN CB
 go_upto_region 2 with fail
 refine wp_world ?_
 intro W2 hW2
 have X2:Hid (W2.heap[w.heap.size]? =some (.cells #[.int .i64 0,.slice none 0 0,.slice none 0 0] 91 (0,0))):=by rw [hW2];exact ((Fr.refl (fun k=>k=R) w1).alloc _).heap X1.out (fun e=>by omega)
 have V2:Hid (W2.heap[w1.heap.size]? =some (.cells #[.int .i64 tk,.int .i64 ta,.string tx,.int .i64 vk,.int .i64 vn,.int .i64 vd,.string vs] 58 (0,0))):=by rw [hW2];exact new_box w1 _
 have F2:Hid (Fr (fun k=>k=R) w W2):=by rw [hW2];exact F1.out.alloc _
 have A2:Hid (∀ t r,ts=t::r→RdAt m W2 R sz r):=fun t r e=>by rw [hW2];exact (N1.out t r e).below ((Below.refl w1.heap.size w1).alloc (Nat.le_refl _) _)
 have zz:w1.heap.size<W2.heap.size:=by rw [hW2];simp
 clear hW2 F1 N1 X1
 generalize w1.heap.size=n1 at*
 obtain ⟨v0,v1,v2,v3,v4,v5,v6⟩:=bx7 V2.out
 go_wp2_with fail
 refine (rh1.out _).mono ?_
 rintro e w91 ⟨rfl,hw9⟩
 obtain rfl:=hw9.symm
 clear rh1
 obtain ⟨r0,r1,r2⟩:=bx3 X2.out
 obtain ⟨q0,q1,q2⟩:=bz3 X2.out
 go_wp2
 generalize hW9:World.setCell _ _ _=W9
 have X9:W9.heap[w.heap.size]? =some (.cells #[.int .i64 1,.slice none 0 0,.slice none 0 0] 91 (0,0)):=by rw [← hW9];exact put3 X2.out
 have F9:Fr (fun k=>k=R) w W9:=by rw [← hW9];exact frp3 F2.out (Or.inr (Nat.le_refl _)) _ _ _
 have G9:Fr (fun k=>k=w.heap.size) W2 W9:=by rw [← hW9];exact frp3 (Fr.refl (fun k=>k=w.heap.size) W2) (Or.inl rfl) _ _ _
 clear hW9
 obtain ⟨x0,x1,x2⟩:=bx3 X9
 refine bodyPost_ret (by simp [results,Tryz.results188,go_sem,x0,x1,x2];try rfl) rfl ?_
 exact ⟨_,rfl,⟨_,_,rfl,fms_none _ _,rxs_none _ _⟩,(A2.out _ _ hT).fr G9 (fun k e=>by omega),F9⟩
theorem regex_none (m R sz:Nat) (ts:List (Tok Val)) (d:Int) (w:World) (h:RdAt m w R sz ts) (hd:¬ (24<d∧(tkH sz ts).k≠0)) (hx1:(tkH sz ts).x≠[97,110,121]) (hx3:(tkH sz ts).x≠[40]):Calls Tryz.prog 188 #[.pointer (some ⟨R,0,none⟩),.int .i64 d] w (RdO m R sz w (RxV w) (.bad 70 (tkH sz ts).at_)):=by
 have CB:Hid (∀ W:World,Below w.heap.size w W→Calls Tryz.prog 74 #[.pointer (some ⟨R,0,none⟩),.int .i64 d] W (NxO m R sz ts W (.agg #[.int .i64 (tkH sz ts).k,.int .i64 (tkH sz ts).at_,.string (txB (tkH sz ts)),.int .i64 (tkH sz ts).v.k,.int .i64 (tkH sz ts).v.n,.int .i64 (tkH sz ts).v.d,.string (tkH sz ts).v.s]))):=fun W hW=>begin_any m R sz ts d W (h.below hW) hd
 have rh1:Hid (∀ W:World,Calls Tryz.prog 84 #[.int .i64 1] W fun e w'=>e=.returned (.string ⟨#[97,110,121]⟩)∧w'=W):=fun W=>regexHead_any 1 W
 have hlt:=h.lt
 have hn0:((txB (tkH sz ts)).toList==[97,110,121])=false:=by rw [beq_data];exact decide_eq_false hx1
 have hn2:((txB (tkH sz ts)).toList==[40])=false:=by rw [beq_data];exact decide_eq_false hx3
 generalize (tkH sz ts).k=tk at*
 generalize (tkH sz ts).at_=ta at*
 generalize txB (tkH sz ts)=tx at*
 generalize (tkH sz ts).v.k=vk at*
 generalize (tkH sz ts).v.n=vn at*
 generalize (tkH sz ts).v.d=vd at*
 generalize (tkH sz ts).v.s=vs at*
 go_enter Tryz.func188,Tryz.ntmps188
 go_wp2_with fail
 refine (CB.out _ (by go_grown)).mono ?_
 rintro e w1 ⟨rfl,hF,hN⟩
 have z1:w.heap.size<w1.heap.size:=by have:=hF.size;simp at this;omega
 have X1:Hid (w1.heap[w.heap.size]? =some (.cells #[.int .i64 0,.slice none 0 0,.slice none 0 0] 91 (0,0))):=hF.heap (new_box w _) (fun e=>by omega)
 have F1:Hid (Fr (fun k=>k=R) w w1):=((Fr.refl (fun k=>k=R) w).alloc _).trans hF (fun k e=>Or.inl e)
 have N1:Hid (∀ t r,ts=t::r→RdAt m w1 R sz r):=hN
 clear hF hN CB
 go_upto_region 2 with fail
 refine wp_world ?_
 intro W2 hW2
 have X2:Hid (W2.heap[w.heap.size]? =some (.cells #[.int .i64 0,.slice none 0 0,.slice none 0 0] 91 (0,0))):=by rw [hW2];exact ((Fr.refl (fun k=>k=R) w1).alloc _).heap X1.out (fun e=>by omega)
 have V2:Hid (W2.heap[w1.heap.size]? =some (.cells #[.int .i64 tk,.int .i64 ta,.string tx,.int .i64 vk,.int .i64 vn,.int .i64 vd,.string vs] 58 (0,0))):=by rw [hW2];exact new_box w1 _
 have F2:Hid (Fr (fun k=>k=R) w W2):=by rw [hW2];exact F1.out.alloc _
 have A2:Hid (∀ t r,ts=t::r→RdAt m W2 R sz r):=fun t r e=>by rw [hW2];exact (N1.out t r e).below ((Below.refl w1.heap.size w1).alloc (Nat.le_refl _) _)
 have zz:w1.heap.size<W2.heap.size:=by rw [hW2];simp
 clear hW2 F1 N1 X1
 generalize w1.heap.size=n1 at*
 obtain ⟨v0,v1,v2,v3,v4,v5,v6⟩:=bx7 V2.out
 go_wp2_with fail
 refine (rh1.out _).mono ?_
 rintro e w91 ⟨rfl,hw9⟩
 obtain rfl:=hw9.symm
 clear rh1
 go_wp2_with fail
 refine (misplaced_at _ _ _ _ _ _ _ _).mono ?_
 rintro e w3 ⟨rfl,hb3⟩
 have F4:Fr (fun k=>k=R) w w3:=F2.out.trans (Fr.of_below (P:=fun _=>False) hb3) (fun _ q=>q.elim)
 clear hb3
 go_wp2
 exact ⟨rfl,rfl,F4⟩
theorem regex_open (m R sz:Nat) (ts:List (Tok Val)) (d:Int) (w:World) (h:RdAt m w R sz ts) (ph:List (Tok Val)→Rd Rx) (hd:¬ (24<d∧(tkH sz ts).k≠0)) (hd0:0≤d) (hd1:d≤1000) (hx1:(tkH sz ts).x≠[97,110,121]) (hx3:(tkH sz ts).x=[40]) (t0:Tok Val) (u:List (Tok Val)) (hT:ts=t0::u) (HH:∀ W:World,RdAt m W R sz u→Calls Tryz.prog 225 #[.pointer (some ⟨R,0,none⟩),.int .i64 (d+1)] W (RdO m R sz W (RxV W) (ph u))):Calls Tryz.prog 188 #[.pointer (some ⟨R,0,none⟩),.int .i64 d] w (RdO m R sz w (RxV w) (pR2 sz ph u)):=by
 have CB:Hid (∀ W:World,Below w.heap.size w W→Calls Tryz.prog 74 #[.pointer (some ⟨R,0,none⟩),.int .i64 d] W (NxO m R sz ts W (.agg #[.int .i64 (tkH sz ts).k,.int .i64 (tkH sz ts).at_,.string (txB (tkH sz ts)),.int .i64 (tkH sz ts).v.k,.int .i64 (tkH sz ts).v.n,.int .i64 (tkH sz ts).v.d,.string (tkH sz ts).v.s]))):=fun W hW=>begin_any m R sz ts d W (h.below hW) hd
 have rh1:Hid (∀ W:World,Calls Tryz.prog 84 #[.int .i64 1] W fun e w'=>e=.returned (.string ⟨#[97,110,121]⟩)∧w'=W):=fun W=>regexHead_any 1 W
 have hlt:=h.lt
 have hdd:IntKind.i64.wrap (d+1)=d+1:=by rw [IntKind.wrap_i64];omega
 have hn0:((txB (tkH sz ts)).toList==[97,110,121])=false:=by rw [beq_data];exact decide_eq_false hx1
 have hn2:((txB (tkH sz ts)).toList==[40])=true:=by rw [beq_data];exact decide_eq_true hx3
 have CH:Hid (∀ W:World,RdAt m W R sz u→Calls Tryz.prog 225 #[.pointer (some ⟨R,0,none⟩),.int .i64 (d+1)] W (RdO m R sz W (RxV W) (ph u))):=HH
 have CX:Hid (∀ (rr:List (Tok Val)) (W:World),RdAt m W R sz rr→Calls Tryz.prog 76 #[.pointer (some ⟨R,0,none⟩),.string ⟨#[41]⟩] W (RdO m R sz W (fun _ _ _=>True) (rExp sz [41] rr))):=fun rr W hW=>expect_any m R sz rr ⟨#[41]⟩ (by decide) W hW
 obtain ⟨RS,hRS⟩:∃ x:Rd Rx,Hid (pR2 sz ph u=x):=⟨_,rfl⟩
 rw [hRS.out]
 clear HH hx1 hx3
 generalize (tkH sz ts).k=tk at*
 generalize (tkH sz ts).at_=ta at*
 generalize txB (tkH sz ts)=tx at*
 generalize (tkH sz ts).v.k=vk at*
 generalize (tkH sz ts).v.n=vn at*
 generalize (tkH sz ts).v.d=vd at*
 generalize (tkH sz ts).v.s=vs at*
 go_enter Tryz.func188,Tryz.ntmps188
 go_wp2_with fail
 refine (CB.out _ (by go_grown)).mono ?_
 rintro e w1 ⟨rfl,hF,hN⟩
 have z1:w.heap.size<w1.heap.size:=by have:=hF.size;simp at this;omega
 have X1:Hid (w1.heap[w.heap.size]? =some (.cells #[.int .i64 0,.slice none 0 0,.slice none 0 0] 91 (0,0))):=hF.heap (new_box w _) (fun e=>by omega)
 have F1:Hid (Fr (fun k=>k=R) w w1):=((Fr.refl (fun k=>k=R) w).alloc _).trans hF (fun k e=>Or.inl e)
 have N1:Hid (∀ t r,ts=t::r→RdAt m w1 R sz r):=hN
 clear hF hN CB
 go_upto_region 2 with fail
 refine wp_world ?_
 intro W2 hW2
 have X2:Hid (W2.heap[w.heap.size]? =some (.cells #[.int .i64 0,.slice none 0 0,.slice none 0 0] 91 (0,0))):=by rw [hW2];exact ((Fr.refl (fun k=>k=R) w1).alloc _).heap X1.out (fun e=>by omega)
 have V2:Hid (W2.heap[w1.heap.size]? =some (.cells #[.int .i64 tk,.int .i64 ta,.string tx,.int .i64 vk,.int .i64 vn,.int .i64 vd,.string vs] 58 (0,0))):=by rw [hW2];exact new_box w1 _
 have F2:Hid (Fr (fun k=>k=R) w W2):=by rw [hW2];exact F1.out.alloc _
 have A2:Hid (∀ t r,ts=t::r→RdAt m W2 R sz r):=fun t r e=>by rw [hW2];exact (N1.out t r e).below ((Below.refl w1.heap.size w1).alloc (Nat.le_refl _) _)
 have zz:w1.heap.size<W2.heap.size:=by rw [hW2];simp
 clear hW2 F1 N1 X1
 generalize w1.heap.size=n1 at*
 obtain ⟨v0,v1,v2,v3,v4,v5,v6⟩:=bx7 V2.out
 go_wp2_with fail
 refine (rh1.out _).mono ?_
 rintro e w91 ⟨rfl,hw9⟩
 obtain rfl:=hw9.symm
 clear rh1
 have A3:Hid (RdAt m W2 R sz u):=A2.out _ _ hT
 clear A2
 have CH2:Hid (Calls Tryz.prog 225 #[.pointer (some ⟨R,0,none⟩),.int .i64 (d+1)] W2 (RdO m R sz W2 (RxV W2) (ph u))):=CH.out W2 A3.out
 cases hP:ph u with
 | bad er a=>
  rw [hP] at CH2
  have hG:Hid (RS=.bad er a):=by
   show _=_
   rw [← hRS.out,pR2,hP,Rd.bind_bad]
  go_wp2_with fail
  refine CH2.out.mono ?_
  rintro e w3 ⟨rfl,hF3⟩
  refine ⟨rfl, ?_⟩
  rw [hG.out]
  exact ⟨rfl,F2.out.trans hF3 (fun k e=>Or.inl e)⟩
 | ok ff r3=>
  rw [hP] at CH2
  go_wp2_with fail
  refine CH2.out.mono ?_
  rintro e w3 ⟨v3,rfl,⟨ua,ub,rfl,hQa,hQb⟩,hA3,hF3⟩
  have HQa:Hid (FmsOwn (fun q=>W2.heap.size≤q) w3 ua ff.test):=hQa
  have HQb:Hid (RxsOwn (fun q=>W2.heap.size≤q) w3 ub ff.subs):=hQb
  obtain ⟨pa,ca,rfl, -⟩:=hQa.at.form
  obtain ⟨pb,cb,rfl, -⟩:=hQb.at.form
  clear hQa hQb
  have F3:Hid (Fr (fun k=>k=R) w w3):=F2.out.trans hF3 (fun k e=>Or.inl e)
  have X3:Hid (w3.heap[w.heap.size]? =_):=hF3.heap X2.out (fun e=>by omega)
  have A4:Hid (RdAt m w3 R sz r3):=hA3
  have z3:W2.heap.size≤w3.heap.size:=hF3.size
  clear hF3 hA3 CH2 CH X2 F2 V2 A3 v0 v1 v2 v3 v4 v5 v6
  obtain ⟨fk,efk⟩:∃ x,Hid (ff.k=x):=⟨_,rfl⟩
  obtain ⟨na,ena⟩:∃ x,Hid (ff.test.length=x):=⟨_,rfl⟩
  obtain ⟨nb,enb⟩:∃ x,Hid (ff.subs.length=x):=⟨_,rfl⟩
  rw [efk.out,ena.out,enb.out]
  rw [ena.out] at HQa
  rw [enb.out] at HQb
  go_upto_region 7 with fail
  refine wp_world ?_
  intro W4 hW4
  have X4:Hid (W4.heap[w.heap.size]? =some (.cells #[.int .i64 0,.slice none 0 0,.slice none 0 0] 91 (0,0))):=by rw [hW4];exact ((Fr.refl (fun k=>k=R) w3).alloc _).heap X3.out (fun e=>by omega)
  have Y4:Hid (W4.heap[w3.heap.size]? =some (.cells #[.int .i64 fk,.slice pa na ca,.slice pb nb cb] 91 (0,0))):=by rw [hW4];exact new_box w3 _
  have F4:Hid (Fr (fun k=>k=R) w W4):=by rw [hW4];exact F3.out.alloc _
  have A5:Hid (RdAt m W4 R sz r3):=by rw [hW4];exact A4.out.below ((Below.refl w3.heap.size w3).alloc (Nat.le_refl _) _)
  have Qa4:Hid (FmsOwn (fun q=>W2.heap.size≤q∧q<w3.heap.size) W4 (.slice pa na ca) ff.test):=by rw [hW4];exact (HQa.out.mono (P':=fun q=>W2.heap.size≤q∧q<w3.heap.size) (fun q h1 h2=>⟨h1,h2⟩)).keep (fun q hq hlt=>Below.heap_alloc _ _ q hq.2)
  have Qb4:Hid (RxsOwn (fun q=>W2.heap.size≤q∧q<w3.heap.size) W4 (.slice pb nb cb) ff.subs):=by rw [hW4];exact (HQb.out.mono (P':=fun q=>W2.heap.size≤q∧q<w3.heap.size) (fun q h1 h2=>⟨h1,h2⟩)).keep (fun q hq hlt=>Below.heap_alloc _ _ q hq.2)
  have z4:w3.heap.size<W4.heap.size:=by rw [hW4];simp
  clear hW4 X3 F3 A4 HQa HQb
  generalize w3.heap.size=n3 at*
  have CX4:Hid (Calls Tryz.prog 76 #[.pointer (some ⟨R,0,none⟩),.string ⟨#[41]⟩] W4 (RdO m R sz W4 (fun _ _ _=>True) (rExp sz [41] r3))):=CX.out r3 W4 A5.out
  cases hX:rExp sz [41] r3 with
  | bad er a=>
   rw [hX] at CX4
   have hG:Hid (RS=.bad er a):=by
    show _=_
    rw [← hRS.out,pR2,hP,Rd.bind_ok,hX,Rd.bind_bad]
   go_wp2_with fail
   refine CX4.out.mono ?_
   rintro e w5 ⟨rfl,hF5⟩
   refine ⟨rfl, ?_⟩
   rw [hG.out]
   exact ⟨rfl,F4.out.trans hF5 (fun k e=>Or.inl e)⟩
  | ok uu r4=>
   rw [hX] at CX4
   have hG:Hid (RS=.ok ff r4):=by
    show _=_
    rw [← hRS.out,pR2,hP,Rd.bind_ok,hX,Rd.bind_ok]
   clear hRS hP hX
   go_wp2_with fail
   refine CX4.out.mono ?_
   rintro e w5 ⟨v5,rfl, -,hA5,hF5⟩
   have F5:Hid (Fr (fun k=>k=R) w w5):=F4.out.trans hF5 (fun k e=>Or.inl e)
   have X5:Hid (w5.heap[w.heap.size]? =_):=hF5.heap X4.out (fun e=>by omega)
   have Y5:Hid (w5.heap[n3]? =_):=hF5.heap Y4.out (fun e=>by omega)
   have Qa5:Hid (FmsOwn (fun q=>W2.heap.size≤q∧q<n3) w5 (.slice pa na ca) ff.test):=Qa4.out.keep (fun q hq hlt=>hF5.block q hlt (fun e=>by omega))
   have Qb5:Hid (RxsOwn (fun q=>W2.heap.size≤q∧q<n3) w5 (.slice pb nb cb) ff.subs):=Qb4.out.keep (fun q hq hlt=>hF5.block q hlt (fun e=>by omega))
   have A6:Hid (RdAt m w5 R sz r4):=hA5
   clear hF5 hA5 CX4 CX F4 X4 Y4 Qa4 Qb4 A5
   obtain ⟨y0,y1,y2⟩:=bx3 Y5.out
   obtain ⟨r0,r1,r2⟩:=bx3 X5.out
   obtain ⟨q0,q1,q2⟩:=bz3 X5.out
   go_wp2
   generalize hW9:World.setCell _ _ _=W9
   have X9:W9.heap[w.heap.size]? =some (.cells #[.int .i64 fk,.slice pa na ca,.slice pb nb cb] 91 (0,0)):=by rw [← hW9];exact put3 X5.out
   have F9:Fr (fun k=>k=R) w W9:=by rw [← hW9];exact frp3 F5.out (Or.inr (Nat.le_refl _)) _ _ _
   have G9:Fr (fun k=>k=w.heap.size) w5 W9:=by rw [← hW9];exact frp3 (Fr.refl (fun k=>k=w.heap.size) w5) (Or.inl rfl) _ _ _
   clear hW9
   obtain ⟨x0,x1,x2⟩:=bx3 X9
   refine bodyPost_ret (by simp [results,Tryz.results188,go_sem,x0,x1,x2];try rfl) rfl ?_
   rw [hG.out]
   refine ⟨_,rfl,⟨_,_, ?_,(Qa5.out.keep (w':=W9) (fun q hq hlt=>G9.block q hlt (fun e=>by omega))).mono (fun q hq _=>by omega),(Qb5.out.keep (w':=W9) (fun q hq hlt=>G9.block q hlt (fun e=>by omega))).mono (fun q hq _=>by omega)⟩,A6.out.fr G9 (fun k e=>by omega),F9⟩
   rw [efk.out]
theorem pHeadR_eq (sz n:Nat) (pf:List (Tok Val)→Rd Fm) (pr:List (Tok Val)→Rd Rx) (ts:List (Tok Val)):∃ u,pHeadR sz n pf pr ts=(if (tkH sz ts).x=hdR 2 then (rMany pf false n 1 u).bind fun l r'=>.ok (rxO 2 l []) r' else if (tkH sz ts).x=hdR 3 then (rMany pr false n 2 u).bind fun l r'=>.ok (rxO 3 [] l) r' else if (tkH sz ts).x=hdR 4 then (rMany pr false n 2 u).bind fun l r'=>.ok (rxO 4 [] l) r' else if (tkH sz ts).x=hdR 5 then (rMany pr false n 1 u).bind fun l r'=>.ok (rxO 5 [] l) r' else .bad 70 (tkH sz ts).at_)∧((tkH sz ts).x≠[]→∃ t,ts=t::u):=by
 cases ts with
 | nil=>exact ⟨[],rfl,fun h=>absurd rfl h⟩
 | cons t r=>exact ⟨r,rfl,fun _=>⟨t,rfl⟩⟩
theorem headR_2 (m R sz:Nat) (ts:List (Tok Val)) (d:Int) (w:World) (h:RdAt m w R sz ts) (n:Nat) (pf:List (Tok Val)→Rd Fm) (hx:(tkH sz ts).x=[116,101,115,116]) (t0:Tok Val) (u:List (Tok Val)) (hT:ts=t0::u) (HL:∀ W:World,RdAt m W R sz u→Calls Tryz.prog 159 #[.pointer (some ⟨R,0,none⟩),.int .i64 ((1:Nat):Int),.bool false,.int .i64 d] W (RdO m R sz W (fun l v w'=>FmsOwn (fun q=>W.heap.size≤q) w' v l) (rMany pf false n 1 u))):Calls Tryz.prog 225 #[.pointer (some ⟨R,0,none⟩),.int .i64 d] w (RdO m R sz w (RxV w) ((rMany pf false n 1 u).bind fun l r'=>.ok (rxO 2 l []) r')):=by
 have CN:Hid (∀ W:World,Below w.heap.size w W→Calls Tryz.prog 32 #[.pointer (some ⟨R,0,none⟩)] W (NxO m R sz ts W (.agg #[.int .i64 (tkH sz ts).k,.int .i64 (tkH sz ts).at_,.string (txB (tkH sz ts)),.int .i64 (tkH sz ts).v.k,.int .i64 (tkH sz ts).v.n,.int .i64 (tkH sz ts).v.d,.string (tkH sz ts).v.s]))):=fun W hW=>next_at m R sz ts W (h.below hW)
 have hlt:=h.lt
 have rh2:Hid (∀ W:World,Calls Tryz.prog 84 #[.int .i64 2] W fun e w'=>e=.returned (.string ⟨#[116,101,115,116]⟩)∧w'=W):=fun W=>regexHead_any 2 W
 have hn2:((txB (tkH sz ts)).toList==[116,101,115,116])=true:=by rw [beq_data];exact decide_eq_true hx
 have CL:Hid (∀ W:World,RdAt m W R sz u→Calls Tryz.prog 159 #[.pointer (some ⟨R,0,none⟩),.int .i64 ((1:Nat):Int),.bool false,.int .i64 d] W (RdO m R sz W (fun l v w'=>FmsOwn (fun q=>W.heap.size≤q) w' v l) (rMany pf false n 1 u))):=HL
 obtain ⟨RS,hRS⟩:∃ x:Rd Rx,Hid (((rMany pf false n 1 u).bind fun l r'=>Rd.ok (rxO 2 l []) r')=x):=⟨_,rfl⟩
 rw [hRS.out]
 clear HL hx
 generalize (tkH sz ts).k=tk at*
 generalize (tkH sz ts).at_=ta at*
 generalize txB (tkH sz ts)=tx at*
 generalize (tkH sz ts).v.k=vk at*
 generalize (tkH sz ts).v.n=vn at*
 generalize (tkH sz ts).v.d=vd at*
 generalize (tkH sz ts).v.s=vs at*
 go_enter Tryz.func225,Tryz.ntmps225
 go_wp2_with fail
 refine (CN.out _ (by go_grown)).mono ?_
 rintro e w1 ⟨rfl,hF,hN⟩
 have z1:w.heap.size<w1.heap.size:=by have:=hF.size;simp at this;omega
 have X1:Hid (w1.heap[w.heap.size]? =some (.cells #[.int .i64 0,.slice none 0 0,.slice none 0 0] 91 (0,0))):=hF.heap (new_box w _) (fun e=>by omega)
 have F1:Hid (Fr (fun k=>k=R) w w1):=((Fr.refl (fun k=>k=R) w).alloc _).trans hF (fun k e=>Or.inl e)
 have N1:Hid (∀ t r,ts=t::r→RdAt m w1 R sz r):=hN
 clear hF hN CN
 go_upto_region 2 with fail
 refine wp_world ?_
 intro W2 hW2
 have X2:Hid (W2.heap[w.heap.size]? =some (.cells #[.int .i64 0,.slice none 0 0,.slice none 0 0] 91 (0,0))):=by rw [hW2];exact ((Fr.refl (fun k=>k=R) w1).alloc _).heap X1.out (fun e=>by omega)
 have V2:Hid (W2.heap[w1.heap.size]? =some (.cells #[.int .i64 tk,.int .i64 ta,.string tx,.int .i64 vk,.int .i64 vn,.int .i64 vd,.string vs] 58 (0,0))):=by rw [hW2];exact new_box w1 _
 have F2:Hid (Fr (fun k=>k=R) w W2):=by rw [hW2];exact F1.out.alloc _
 have A2:Hid (∀ t r,ts=t::r→RdAt m W2 R sz r):=fun t r e=>by rw [hW2];exact (N1.out t r e).below ((Below.refl w1.heap.size w1).alloc (Nat.le_refl _) _)
 have zz:w1.heap.size<W2.heap.size:=by rw [hW2];simp
 clear hW2 F1 N1 X1
 generalize w1.heap.size=n1 at*
 obtain ⟨v0,v1,v2,v3,v4,v5,v6⟩:=bx7 V2.out
 go_wp2_with fail
 refine (rh2.out _).mono ?_
 rintro e w92 ⟨rfl,hw9⟩
 obtain rfl:=hw9.symm
 clear rh2
 have A3:Hid (RdAt m W2 R sz u):=A2.out _ _ hT
 clear A2
 have CL2:Hid (Calls Tryz.prog 159 #[.pointer (some ⟨R,0,none⟩),.int .i64 ((1:Nat):Int),.bool false,.int .i64 d] W2 (RdO m R sz W2 (fun l v w'=>FmsOwn (fun q=>W2.heap.size≤q) w' v l) (rMany pf false n 1 u))):=CL.out W2 A3.out
 cases hP:rMany pf false n 1 u with
 | bad er a=>
  rw [hP] at CL2
  have hG:Hid (RS=.bad er a):=by
   show _=_
   rw [← hRS.out,hP,Rd.bind_bad]
  go_wp2_with fail
  refine CL2.out.mono ?_
  rintro e w3 ⟨rfl,hF3⟩
  refine ⟨rfl, ?_⟩
  rw [hG.out]
  exact ⟨rfl,F2.out.trans hF3 (fun k e=>Or.inl e)⟩
 | ok l r3=>
  rw [hP] at CL2
  have hG:Hid (RS=.ok (rxO 2 l []) r3):=by
   show _=_
   rw [← hRS.out,hP,Rd.bind_ok]
  go_wp2_with fail
  refine CL2.out.mono ?_
  rintro e w3 ⟨v3,rfl,hQ3,hA3,hF3⟩
  have HQ:Hid (FmsOwn (fun q=>W2.heap.size≤q) w3 v3 l):=hQ3
  obtain ⟨p3,c3,rfl, -⟩:=hQ3.at.form
  clear hQ3
  have F3:Hid (Fr (fun k=>k=R) w w3):=F2.out.trans hF3 (fun k e=>Or.inl e)
  have X3:Hid (w3.heap[w.heap.size]? =_):=hF3.heap X2.out (fun e=>by omega)
  have A4:Hid (RdAt m w3 R sz r3):=hA3
  have z3:W2.heap.size≤w3.heap.size:=hF3.size
  clear hF3 hA3 CL2 CL X2 F2 V2 A3 v0 v1 v2 v3 v4 v5 v6
  obtain ⟨n3,en3⟩:∃ x,Hid (l.length=x):=⟨_,rfl⟩
  rw [en3.out]
  rw [en3.out] at HQ
  obtain ⟨r0,r1,r2⟩:=bx3 X3.out
  obtain ⟨q0,q1,q2⟩:=bz3 X3.out
  go_wp2
  generalize hW9:World.setCell _ _ _=W9
  have X9:W9.heap[w.heap.size]? =some (.cells #[.int .i64 2,.slice p3 n3 c3,.slice none 0 0] 91 (0,0)):=by rw [← hW9];exact put3 X3.out
  have F9:Fr (fun k=>k=R) w W9:=by rw [← hW9];exact frp3 F3.out (Or.inr (Nat.le_refl _)) _ _ _
  have G9:Fr (fun k=>k=w.heap.size) w3 W9:=by rw [← hW9];exact frp3 (Fr.refl (fun k=>k=w.heap.size) w3) (Or.inl rfl) _ _ _
  clear hW9
  obtain ⟨x0,x1,x2⟩:=bx3 X9
  refine bodyPost_ret (by simp [results,Tryz.results225,go_sem,x0,x1,x2];try rfl) rfl ?_
  rw [hG.out]
  have Q9:=(HQ.out.keep (w':=W9) (fun q hq hlt=>G9.block q hlt (fun e=>by omega))).mono (P':=fun q=>w.heap.size≤q) (fun q hq _=>by omega)
  exact ⟨_,rfl,⟨_,_,rfl,Q9,rxs_none _ _⟩,A4.out.fr G9 (fun k e=>by omega),F9⟩
theorem headR_3 (m R sz:Nat) (ts:List (Tok Val)) (d:Int) (w:World) (h:RdAt m w R sz ts) (n:Nat) (pr:List (Tok Val)→Rd Rx) (hx:(tkH sz ts).x=[97,108,116]) (t0:Tok Val) (u:List (Tok Val)) (hT:ts=t0::u) (HL:∀ W:World,RdAt m W R sz u→Calls Tryz.prog 158 #[.pointer (some ⟨R,0,none⟩),.int .i64 ((2:Nat):Int),.int .i64 d] W (RdO m R sz W (fun l v w'=>RxsOwn (fun q=>W.heap.size≤q) w' v l) (rMany pr false n 2 u))):Calls Tryz.prog 225 #[.pointer (some ⟨R,0,none⟩),.int .i64 d] w (RdO m R sz w (RxV w) ((rMany pr false n 2 u).bind fun l r'=>.ok (rxO 3 [] l) r')):=by
 have CN:Hid (∀ W:World,Below w.heap.size w W→Calls Tryz.prog 32 #[.pointer (some ⟨R,0,none⟩)] W (NxO m R sz ts W (.agg #[.int .i64 (tkH sz ts).k,.int .i64 (tkH sz ts).at_,.string (txB (tkH sz ts)),.int .i64 (tkH sz ts).v.k,.int .i64 (tkH sz ts).v.n,.int .i64 (tkH sz ts).v.d,.string (tkH sz ts).v.s]))):=fun W hW=>next_at m R sz ts W (h.below hW)
 have hlt:=h.lt
 have rh2:Hid (∀ W:World,Calls Tryz.prog 84 #[.int .i64 2] W fun e w'=>e=.returned (.string ⟨#[116,101,115,116]⟩)∧w'=W):=fun W=>regexHead_any 2 W
 have rh3:Hid (∀ W:World,Calls Tryz.prog 84 #[.int .i64 3] W fun e w'=>e=.returned (.string ⟨#[97,108,116]⟩)∧w'=W):=fun W=>regexHead_any 3 W
 have hn2:((txB (tkH sz ts)).toList==[116,101,115,116])=false:=by rw [beq_data];exact decide_eq_false (fun e=>by have e2:(tkH sz ts).x=[116,101,115,116]:=e;rw [hx] at e2;revert e2;decide)
 have hn3:((txB (tkH sz ts)).toList==[97,108,116])=true:=by rw [beq_data];exact decide_eq_true hx
 have CL:Hid (∀ W:World,RdAt m W R sz u→Calls Tryz.prog 158 #[.pointer (some ⟨R,0,none⟩),.int .i64 ((2:Nat):Int),.int .i64 d] W (RdO m R sz W (fun l v w'=>RxsOwn (fun q=>W.heap.size≤q) w' v l) (rMany pr false n 2 u))):=HL
 obtain ⟨RS,hRS⟩:∃ x:Rd Rx,Hid (((rMany pr false n 2 u).bind fun l r'=>Rd.ok (rxO 3 [] l) r')=x):=⟨_,rfl⟩
 rw [hRS.out]
 clear HL hx
 generalize (tkH sz ts).k=tk at*
 generalize (tkH sz ts).at_=ta at*
 generalize txB (tkH sz ts)=tx at*
 generalize (tkH sz ts).v.k=vk at*
 generalize (tkH sz ts).v.n=vn at*
 generalize (tkH sz ts).v.d=vd at*
 generalize (tkH sz ts).v.s=vs at*
 go_enter Tryz.func225,Tryz.ntmps225
 go_wp2_with fail
 refine (CN.out _ (by go_grown)).mono ?_
 rintro e w1 ⟨rfl,hF,hN⟩
 have z1:w.heap.size<w1.heap.size:=by have:=hF.size;simp at this;omega
 have X1:Hid (w1.heap[w.heap.size]? =some (.cells #[.int .i64 0,.slice none 0 0,.slice none 0 0] 91 (0,0))):=hF.heap (new_box w _) (fun e=>by omega)
 have F1:Hid (Fr (fun k=>k=R) w w1):=((Fr.refl (fun k=>k=R) w).alloc _).trans hF (fun k e=>Or.inl e)
 have N1:Hid (∀ t r,ts=t::r→RdAt m w1 R sz r):=hN
 clear hF hN CN
 go_upto_region 2 with fail
 refine wp_world ?_
 intro W2 hW2
 have X2:Hid (W2.heap[w.heap.size]? =some (.cells #[.int .i64 0,.slice none 0 0,.slice none 0 0] 91 (0,0))):=by rw [hW2];exact ((Fr.refl (fun k=>k=R) w1).alloc _).heap X1.out (fun e=>by omega)
 have V2:Hid (W2.heap[w1.heap.size]? =some (.cells #[.int .i64 tk,.int .i64 ta,.string tx,.int .i64 vk,.int .i64 vn,.int .i64 vd,.string vs] 58 (0,0))):=by rw [hW2];exact new_box w1 _
 have F2:Hid (Fr (fun k=>k=R) w W2):=by rw [hW2];exact F1.out.alloc _
 have A2:Hid (∀ t r,ts=t::r→RdAt m W2 R sz r):=fun t r e=>by rw [hW2];exact (N1.out t r e).below ((Below.refl w1.heap.size w1).alloc (Nat.le_refl _) _)
 have zz:w1.heap.size<W2.heap.size:=by rw [hW2];simp
 clear hW2 F1 N1 X1
 generalize w1.heap.size=n1 at*
 obtain ⟨v0,v1,v2,v3,v4,v5,v6⟩:=bx7 V2.out
 go_wp2_with fail
 refine (rh2.out _).mono ?_
 rintro e w92 ⟨rfl,hw9⟩
 obtain rfl:=hw9.symm
 clear rh2
 go_wp2_with fail
 refine (rh3.out _).mono ?_
 rintro e w93 ⟨rfl,hw9⟩
 obtain rfl:=hw9.symm
 clear rh3
 have A3:Hid (RdAt m W2 R sz u):=A2.out _ _ hT
 clear A2
 have CL2:Hid (Calls Tryz.prog 158 #[.pointer (some ⟨R,0,none⟩),.int .i64 ((2:Nat):Int),.int .i64 d] W2 (RdO m R sz W2 (fun l v w'=>RxsOwn (fun q=>W2.heap.size≤q) w' v l) (rMany pr false n 2 u))):=CL.out W2 A3.out
 cases hP:rMany pr false n 2 u with
 | bad er a=>
  rw [hP] at CL2
  have hG:Hid (RS=.bad er a):=by
   show _=_
   rw [← hRS.out,hP,Rd.bind_bad]
  go_wp2_with fail
  refine CL2.out.mono ?_
  rintro e w3 ⟨rfl,hF3⟩
  refine ⟨rfl, ?_⟩
  rw [hG.out]
  exact ⟨rfl,F2.out.trans hF3 (fun k e=>Or.inl e)⟩
 | ok l r3=>
  rw [hP] at CL2
  have hG:Hid (RS=.ok (rxO 3 [] l) r3):=by
   show _=_
   rw [← hRS.out,hP,Rd.bind_ok]
  go_wp2_with fail
  refine CL2.out.mono ?_
  rintro e w3 ⟨v3,rfl,hQ3,hA3,hF3⟩
  have HQ:Hid (RxsOwn (fun q=>W2.heap.size≤q) w3 v3 l):=hQ3
  obtain ⟨p3,c3,rfl, -⟩:=hQ3.at.form
  clear hQ3
  have F3:Hid (Fr (fun k=>k=R) w w3):=F2.out.trans hF3 (fun k e=>Or.inl e)
  have X3:Hid (w3.heap[w.heap.size]? =_):=hF3.heap X2.out (fun e=>by omega)
  have A4:Hid (RdAt m w3 R sz r3):=hA3
  have z3:W2.heap.size≤w3.heap.size:=hF3.size
  clear hF3 hA3 CL2 CL X2 F2 V2 A3 v0 v1 v2 v3 v4 v5 v6
  obtain ⟨n3,en3⟩:∃ x,Hid (l.length=x):=⟨_,rfl⟩
  rw [en3.out]
  rw [en3.out] at HQ
  obtain ⟨r0,r1,r2⟩:=bx3 X3.out
  obtain ⟨q0,q1,q2⟩:=bz3 X3.out
  go_wp2
  generalize hW9:World.setCell _ _ _=W9
  have X9:W9.heap[w.heap.size]? =some (.cells #[.int .i64 3,.slice none 0 0,.slice p3 n3 c3] 91 (0,0)):=by rw [← hW9];exact put3 X3.out
  have F9:Fr (fun k=>k=R) w W9:=by rw [← hW9];exact frp3 F3.out (Or.inr (Nat.le_refl _)) _ _ _
  have G9:Fr (fun k=>k=w.heap.size) w3 W9:=by rw [← hW9];exact frp3 (Fr.refl (fun k=>k=w.heap.size) w3) (Or.inl rfl) _ _ _
  clear hW9
  obtain ⟨x0,x1,x2⟩:=bx3 X9
  refine bodyPost_ret (by simp [results,Tryz.results225,go_sem,x0,x1,x2];try rfl) rfl ?_
  rw [hG.out]
  have Q9:=(HQ.out.keep (w':=W9) (fun q hq hlt=>G9.block q hlt (fun e=>by omega))).mono (P':=fun q=>w.heap.size≤q) (fun q hq _=>by omega)
  exact ⟨_,rfl,⟨_,_,rfl,fms_none _ _,Q9⟩,A4.out.fr G9 (fun k e=>by omega),F9⟩
theorem headR_4 (m R sz:Nat) (ts:List (Tok Val)) (d:Int) (w:World) (h:RdAt m w R sz ts) (n:Nat) (pr:List (Tok Val)→Rd Rx) (hx:(tkH sz ts).x=[115,101,113]) (t0:Tok Val) (u:List (Tok Val)) (hT:ts=t0::u) (HL:∀ W:World,RdAt m W R sz u→Calls Tryz.prog 158 #[.pointer (some ⟨R,0,none⟩),.int .i64 ((2:Nat):Int),.int .i64 d] W (RdO m R sz W (fun l v w'=>RxsOwn (fun q=>W.heap.size≤q) w' v l) (rMany pr false n 2 u))):Calls Tryz.prog 225 #[.pointer (some ⟨R,0,none⟩),.int .i64 d] w (RdO m R sz w (RxV w) ((rMany pr false n 2 u).bind fun l r'=>.ok (rxO 4 [] l) r')):=by
 have CN:Hid (∀ W:World,Below w.heap.size w W→Calls Tryz.prog 32 #[.pointer (some ⟨R,0,none⟩)] W (NxO m R sz ts W (.agg #[.int .i64 (tkH sz ts).k,.int .i64 (tkH sz ts).at_,.string (txB (tkH sz ts)),.int .i64 (tkH sz ts).v.k,.int .i64 (tkH sz ts).v.n,.int .i64 (tkH sz ts).v.d,.string (tkH sz ts).v.s]))):=fun W hW=>next_at m R sz ts W (h.below hW)
 have hlt:=h.lt
 have rh2:Hid (∀ W:World,Calls Tryz.prog 84 #[.int .i64 2] W fun e w'=>e=.returned (.string ⟨#[116,101,115,116]⟩)∧w'=W):=fun W=>regexHead_any 2 W
 have rh3:Hid (∀ W:World,Calls Tryz.prog 84 #[.int .i64 3] W fun e w'=>e=.returned (.string ⟨#[97,108,116]⟩)∧w'=W):=fun W=>regexHead_any 3 W
 have rh4:Hid (∀ W:World,Calls Tryz.prog 84 #[.int .i64 4] W fun e w'=>e=.returned (.string ⟨#[115,101,113]⟩)∧w'=W):=fun W=>regexHead_any 4 W
 have hn2:((txB (tkH sz ts)).toList==[116,101,115,116])=false:=by rw [beq_data];exact decide_eq_false (fun e=>by have e2:(tkH sz ts).x=[116,101,115,116]:=e;rw [hx] at e2;revert e2;decide)
 have hn3:((txB (tkH sz ts)).toList==[97,108,116])=false:=by rw [beq_data];exact decide_eq_false (fun e=>by have e2:(tkH sz ts).x=[97,108,116]:=e;rw [hx] at e2;revert e2;decide)
 have hn4:((txB (tkH sz ts)).toList==[115,101,113])=true:=by rw [beq_data];exact decide_eq_true hx
 have CL:Hid (∀ W:World,RdAt m W R sz u→Calls Tryz.prog 158 #[.pointer (some ⟨R,0,none⟩),.int .i64 ((2:Nat):Int),.int .i64 d] W (RdO m R sz W (fun l v w'=>RxsOwn (fun q=>W.heap.size≤q) w' v l) (rMany pr false n 2 u))):=HL
 obtain ⟨RS,hRS⟩:∃ x:Rd Rx,Hid (((rMany pr false n 2 u).bind fun l r'=>Rd.ok (rxO 4 [] l) r')=x):=⟨_,rfl⟩
 rw [hRS.out]
 clear HL hx
 generalize (tkH sz ts).k=tk at*
 generalize (tkH sz ts).at_=ta at*
 generalize txB (tkH sz ts)=tx at*
 generalize (tkH sz ts).v.k=vk at*
 generalize (tkH sz ts).v.n=vn at*
 generalize (tkH sz ts).v.d=vd at*
 generalize (tkH sz ts).v.s=vs at*
 go_enter Tryz.func225,Tryz.ntmps225
 go_wp2_with fail
 refine (CN.out _ (by go_grown)).mono ?_
 rintro e w1 ⟨rfl,hF,hN⟩
 have z1:w.heap.size<w1.heap.size:=by have:=hF.size;simp at this;omega
 have X1:Hid (w1.heap[w.heap.size]? =some (.cells #[.int .i64 0,.slice none 0 0,.slice none 0 0] 91 (0,0))):=hF.heap (new_box w _) (fun e=>by omega)
 have F1:Hid (Fr (fun k=>k=R) w w1):=((Fr.refl (fun k=>k=R) w).alloc _).trans hF (fun k e=>Or.inl e)
 have N1:Hid (∀ t r,ts=t::r→RdAt m w1 R sz r):=hN
 clear hF hN CN
 go_upto_region 2 with fail
 refine wp_world ?_
 intro W2 hW2
 have X2:Hid (W2.heap[w.heap.size]? =some (.cells #[.int .i64 0,.slice none 0 0,.slice none 0 0] 91 (0,0))):=by rw [hW2];exact ((Fr.refl (fun k=>k=R) w1).alloc _).heap X1.out (fun e=>by omega)
 have V2:Hid (W2.heap[w1.heap.size]? =some (.cells #[.int .i64 tk,.int .i64 ta,.string tx,.int .i64 vk,.int .i64 vn,.int .i64 vd,.string vs] 58 (0,0))):=by rw [hW2];exact new_box w1 _
 have F2:Hid (Fr (fun k=>k=R) w W2):=by rw [hW2];exact F1.out.alloc _
 have A2:Hid (∀ t r,ts=t::r→RdAt m W2 R sz r):=fun t r e=>by rw [hW2];exact (N1.out t r e).below ((Below.refl w1.heap.size w1).alloc (Nat.le_refl _) _)
 have zz:w1.heap.size<W2.heap.size:=by rw [hW2];simp
 clear hW2 F1 N1 X1
 generalize w1.heap.size=n1 at*
 obtain ⟨v0,v1,v2,v3,v4,v5,v6⟩:=bx7 V2.out
 go_wp2_with fail
 refine (rh2.out _).mono ?_
 rintro e w92 ⟨rfl,hw9⟩
 obtain rfl:=hw9.symm
 clear rh2
 go_wp2_with fail
 refine (rh3.out _).mono ?_
 rintro e w93 ⟨rfl,hw9⟩
 obtain rfl:=hw9.symm
 clear rh3
 go_wp2_with fail
 refine (rh4.out _).mono ?_
 rintro e w94 ⟨rfl,hw9⟩
 obtain rfl:=hw9.symm
 clear rh4
 have A3:Hid (RdAt m W2 R sz u):=A2.out _ _ hT
 clear A2
 have CL2:Hid (Calls Tryz.prog 158 #[.pointer (some ⟨R,0,none⟩),.int .i64 ((2:Nat):Int),.int .i64 d] W2 (RdO m R sz W2 (fun l v w'=>RxsOwn (fun q=>W2.heap.size≤q) w' v l) (rMany pr false n 2 u))):=CL.out W2 A3.out
 cases hP:rMany pr false n 2 u with
 | bad er a=>
  rw [hP] at CL2
  have hG:Hid (RS=.bad er a):=by
   show _=_
   rw [← hRS.out,hP,Rd.bind_bad]
  go_wp2_with fail
  refine CL2.out.mono ?_
  rintro e w3 ⟨rfl,hF3⟩
  refine ⟨rfl, ?_⟩
  rw [hG.out]
  exact ⟨rfl,F2.out.trans hF3 (fun k e=>Or.inl e)⟩
 | ok l r3=>
  rw [hP] at CL2
  have hG:Hid (RS=.ok (rxO 4 [] l) r3):=by
   show _=_
   rw [← hRS.out,hP,Rd.bind_ok]
  go_wp2_with fail
  refine CL2.out.mono ?_
  rintro e w3 ⟨v3,rfl,hQ3,hA3,hF3⟩
  have HQ:Hid (RxsOwn (fun q=>W2.heap.size≤q) w3 v3 l):=hQ3
  obtain ⟨p3,c3,rfl, -⟩:=hQ3.at.form
  clear hQ3
  have F3:Hid (Fr (fun k=>k=R) w w3):=F2.out.trans hF3 (fun k e=>Or.inl e)
  have X3:Hid (w3.heap[w.heap.size]? =_):=hF3.heap X2.out (fun e=>by omega)
  have A4:Hid (RdAt m w3 R sz r3):=hA3
  have z3:W2.heap.size≤w3.heap.size:=hF3.size
  clear hF3 hA3 CL2 CL X2 F2 V2 A3 v0 v1 v2 v3 v4 v5 v6
  obtain ⟨n3,en3⟩:∃ x,Hid (l.length=x):=⟨_,rfl⟩
  rw [en3.out]
  rw [en3.out] at HQ
  obtain ⟨r0,r1,r2⟩:=bx3 X3.out
  obtain ⟨q0,q1,q2⟩:=bz3 X3.out
  go_wp2
  generalize hW9:World.setCell _ _ _=W9
  have X9:W9.heap[w.heap.size]? =some (.cells #[.int .i64 4,.slice none 0 0,.slice p3 n3 c3] 91 (0,0)):=by rw [← hW9];exact put3 X3.out
  have F9:Fr (fun k=>k=R) w W9:=by rw [← hW9];exact frp3 F3.out (Or.inr (Nat.le_refl _)) _ _ _
  have G9:Fr (fun k=>k=w.heap.size) w3 W9:=by rw [← hW9];exact frp3 (Fr.refl (fun k=>k=w.heap.size) w3) (Or.inl rfl) _ _ _
  clear hW9
  obtain ⟨x0,x1,x2⟩:=bx3 X9
  refine bodyPost_ret (by simp [results,Tryz.results225,go_sem,x0,x1,x2];try rfl) rfl ?_
  rw [hG.out]
  have Q9:=(HQ.out.keep (w':=W9) (fun q hq hlt=>G9.block q hlt (fun e=>by omega))).mono (P':=fun q=>w.heap.size≤q) (fun q hq _=>by omega)
  exact ⟨_,rfl,⟨_,_,rfl,fms_none _ _,Q9⟩,A4.out.fr G9 (fun k e=>by omega),F9⟩
theorem headR_5 (m R sz:Nat) (ts:List (Tok Val)) (d:Int) (w:World) (h:RdAt m w R sz ts) (n:Nat) (pr:List (Tok Val)→Rd Rx) (hx:(tkH sz ts).x=[115,116,97,114]) (t0:Tok Val) (u:List (Tok Val)) (hT:ts=t0::u) (HL:∀ W:World,RdAt m W R sz u→Calls Tryz.prog 158 #[.pointer (some ⟨R,0,none⟩),.int .i64 ((1:Nat):Int),.int .i64 d] W (RdO m R sz W (fun l v w'=>RxsOwn (fun q=>W.heap.size≤q) w' v l) (rMany pr false n 1 u))):Calls Tryz.prog 225 #[.pointer (some ⟨R,0,none⟩),.int .i64 d] w (RdO m R sz w (RxV w) ((rMany pr false n 1 u).bind fun l r'=>.ok (rxO 5 [] l) r')):=by
 have CN:Hid (∀ W:World,Below w.heap.size w W→Calls Tryz.prog 32 #[.pointer (some ⟨R,0,none⟩)] W (NxO m R sz ts W (.agg #[.int .i64 (tkH sz ts).k,.int .i64 (tkH sz ts).at_,.string (txB (tkH sz ts)),.int .i64 (tkH sz ts).v.k,.int .i64 (tkH sz ts).v.n,.int .i64 (tkH sz ts).v.d,.string (tkH sz ts).v.s]))):=fun W hW=>next_at m R sz ts W (h.below hW)
 have hlt:=h.lt
 have rh2:Hid (∀ W:World,Calls Tryz.prog 84 #[.int .i64 2] W fun e w'=>e=.returned (.string ⟨#[116,101,115,116]⟩)∧w'=W):=fun W=>regexHead_any 2 W
 have rh3:Hid (∀ W:World,Calls Tryz.prog 84 #[.int .i64 3] W fun e w'=>e=.returned (.string ⟨#[97,108,116]⟩)∧w'=W):=fun W=>regexHead_any 3 W
 have rh4:Hid (∀ W:World,Calls Tryz.prog 84 #[.int .i64 4] W fun e w'=>e=.returned (.string ⟨#[115,101,113]⟩)∧w'=W):=fun W=>regexHead_any 4 W
 have rh5:Hid (∀ W:World,Calls Tryz.prog 84 #[.int .i64 5] W fun e w'=>e=.returned (.string ⟨#[115,116,97,114]⟩)∧w'=W):=fun W=>regexHead_any 5 W
 have hn2:((txB (tkH sz ts)).toList==[116,101,115,116])=false:=by rw [beq_data];exact decide_eq_false (fun e=>by have e2:(tkH sz ts).x=[116,101,115,116]:=e;rw [hx] at e2;revert e2;decide)
 have hn3:((txB (tkH sz ts)).toList==[97,108,116])=false:=by rw [beq_data];exact decide_eq_false (fun e=>by have e2:(tkH sz ts).x=[97,108,116]:=e;rw [hx] at e2;revert e2;decide)
 have hn4:((txB (tkH sz ts)).toList==[115,101,113])=false:=by rw [beq_data];exact decide_eq_false (fun e=>by have e2:(tkH sz ts).x=[115,101,113]:=e;rw [hx] at e2;revert e2;decide)
 have hn5:((txB (tkH sz ts)).toList==[115,116,97,114])=true:=by rw [beq_data];exact decide_eq_true hx
 have CL:Hid (∀ W:World,RdAt m W R sz u→Calls Tryz.prog 158 #[.pointer (some ⟨R,0,none⟩),.int .i64 ((1:Nat):Int),.int .i64 d] W (RdO m R sz W (fun l v w'=>RxsOwn (fun q=>W.heap.size≤q) w' v l) (rMany pr false n 1 u))):=HL
 obtain ⟨RS,hRS⟩:∃ x:Rd Rx,Hid (((rMany pr false n 1 u).bind fun l r'=>Rd.ok (rxO 5 [] l) r')=x):=⟨_,rfl⟩
 rw [hRS.out]
 clear HL hx
 generalize (tkH sz ts).k=tk at*
 generalize (tkH sz ts).at_=ta at*
 generalize txB (tkH sz ts)=tx at*
 generalize (tkH sz ts).v.k=vk at*
 generalize (tkH sz ts).v.n=vn at*
 generalize (tkH sz ts).v.d=vd at*
 generalize (tkH sz ts).v.s=vs at*
 go_enter Tryz.func225,Tryz.ntmps225
 go_wp2_with fail
 refine (CN.out _ (by go_grown)).mono ?_
 rintro e w1 ⟨rfl,hF,hN⟩
 have z1:w.heap.size<w1.heap.size:=by have:=hF.size;simp at this;omega
 have X1:Hid (w1.heap[w.heap.size]? =some (.cells #[.int .i64 0,.slice none 0 0,.slice none 0 0] 91 (0,0))):=hF.heap (new_box w _) (fun e=>by omega)
 have F1:Hid (Fr (fun k=>k=R) w w1):=((Fr.refl (fun k=>k=R) w).alloc _).trans hF (fun k e=>Or.inl e)
 have N1:Hid (∀ t r,ts=t::r→RdAt m w1 R sz r):=hN
 clear hF hN CN
 go_upto_region 2 with fail
 refine wp_world ?_
 intro W2 hW2
 have X2:Hid (W2.heap[w.heap.size]? =some (.cells #[.int .i64 0,.slice none 0 0,.slice none 0 0] 91 (0,0))):=by rw [hW2];exact ((Fr.refl (fun k=>k=R) w1).alloc _).heap X1.out (fun e=>by omega)
 have V2:Hid (W2.heap[w1.heap.size]? =some (.cells #[.int .i64 tk,.int .i64 ta,.string tx,.int .i64 vk,.int .i64 vn,.int .i64 vd,.string vs] 58 (0,0))):=by rw [hW2];exact new_box w1 _
 have F2:Hid (Fr (fun k=>k=R) w W2):=by rw [hW2];exact F1.out.alloc _
 have A2:Hid (∀ t r,ts=t::r→RdAt m W2 R sz r):=fun t r e=>by rw [hW2];exact (N1.out t r e).below ((Below.refl w1.heap.size w1).alloc (Nat.le_refl _) _)
 have zz:w1.heap.size<W2.heap.size:=by rw [hW2];simp
 clear hW2 F1 N1 X1
 generalize w1.heap.size=n1 at*
 obtain ⟨v0,v1,v2,v3,v4,v5,v6⟩:=bx7 V2.out
 go_wp2_with fail
 refine (rh2.out _).mono ?_
 rintro e w92 ⟨rfl,hw9⟩
 obtain rfl:=hw9.symm
 clear rh2
 go_wp2_with fail
 refine (rh3.out _).mono ?_
 rintro e w93 ⟨rfl,hw9⟩
 obtain rfl:=hw9.symm
 clear rh3
 go_wp2_with fail
 refine (rh4.out _).mono ?_
 rintro e w94 ⟨rfl,hw9⟩
 obtain rfl:=hw9.symm
 clear rh4
 go_wp2_with fail
 refine (rh5.out _).mono ?_
 rintro e w95 ⟨rfl,hw9⟩
 obtain rfl:=hw9.symm
 clear rh5
 have A3:Hid (RdAt m W2 R sz u):=A2.out _ _ hT
 clear A2
 have CL2:Hid (Calls Tryz.prog 158 #[.pointer (some ⟨R,0,none⟩),.int .i64 ((1:Nat):Int),.int .i64 d] W2 (RdO m R sz W2 (fun l v w'=>RxsOwn (fun q=>W2.heap.size≤q) w' v l) (rMany pr false n 1 u))):=CL.out W2 A3.out
 cases hP:rMany pr false n 1 u with
 | bad er a=>
  rw [hP] at CL2
  have hG:Hid (RS=.bad er a):=by
   show _=_
   rw [← hRS.out,hP,Rd.bind_bad]
  go_wp2_with fail
  refine CL2.out.mono ?_
  rintro e w3 ⟨rfl,hF3⟩
  refine ⟨rfl, ?_⟩
  rw [hG.out]
  exact ⟨rfl,F2.out.trans hF3 (fun k e=>Or.inl e)⟩
 | ok l r3=>
  rw [hP] at CL2
  have hG:Hid (RS=.ok (rxO 5 [] l) r3):=by
   show _=_
   rw [← hRS.out,hP,Rd.bind_ok]
  go_wp2_with fail
  refine CL2.out.mono ?_
  rintro e w3 ⟨v3,rfl,hQ3,hA3,hF3⟩
  have HQ:Hid (RxsOwn (fun q=>W2.heap.size≤q) w3 v3 l):=hQ3
  obtain ⟨p3,c3,rfl, -⟩:=hQ3.at.form
  clear hQ3
  have F3:Hid (Fr (fun k=>k=R) w w3):=F2.out.trans hF3 (fun k e=>Or.inl e)
  have X3:Hid (w3.heap[w.heap.size]? =_):=hF3.heap X2.out (fun e=>by omega)
  have A4:Hid (RdAt m w3 R sz r3):=hA3
  have z3:W2.heap.size≤w3.heap.size:=hF3.size
  clear hF3 hA3 CL2 CL X2 F2 V2 A3 v0 v1 v2 v3 v4 v5 v6
  obtain ⟨n3,en3⟩:∃ x,Hid (l.length=x):=⟨_,rfl⟩
  rw [en3.out]
  rw [en3.out] at HQ
  obtain ⟨r0,r1,r2⟩:=bx3 X3.out
  obtain ⟨q0,q1,q2⟩:=bz3 X3.out
  go_wp2
  generalize hW9:World.setCell _ _ _=W9
  have X9:W9.heap[w.heap.size]? =some (.cells #[.int .i64 5,.slice none 0 0,.slice p3 n3 c3] 91 (0,0)):=by rw [← hW9];exact put3 X3.out
  have F9:Fr (fun k=>k=R) w W9:=by rw [← hW9];exact frp3 F3.out (Or.inr (Nat.le_refl _)) _ _ _
  have G9:Fr (fun k=>k=w.heap.size) w3 W9:=by rw [← hW9];exact frp3 (Fr.refl (fun k=>k=w.heap.size) w3) (Or.inl rfl) _ _ _
  clear hW9
  obtain ⟨x0,x1,x2⟩:=bx3 X9
  refine bodyPost_ret (by simp [results,Tryz.results225,go_sem,x0,x1,x2];try rfl) rfl ?_
  rw [hG.out]
  have Q9:=(HQ.out.keep (w':=W9) (fun q hq hlt=>G9.block q hlt (fun e=>by omega))).mono (P':=fun q=>w.heap.size≤q) (fun q hq _=>by omega)
  exact ⟨_,rfl,⟨_,_,rfl,fms_none _ _,Q9⟩,A4.out.fr G9 (fun k e=>by omega),F9⟩
theorem headR_none (m R sz:Nat) (ts:List (Tok Val)) (d:Int) (w:World) (h:RdAt m w R sz ts) (hx2:(tkH sz ts).x≠[116,101,115,116]) (hx3:(tkH sz ts).x≠[97,108,116]) (hx4:(tkH sz ts).x≠[115,101,113]) (hx5:(tkH sz ts).x≠[115,116,97,114]):Calls Tryz.prog 225 #[.pointer (some ⟨R,0,none⟩),.int .i64 d] w (RdO m R sz w (RxV w) (.bad 70 (tkH sz ts).at_)):=by
 have CN:Hid (∀ W:World,Below w.heap.size w W→Calls Tryz.prog 32 #[.pointer (some ⟨R,0,none⟩)] W (NxO m R sz ts W (.agg #[.int .i64 (tkH sz ts).k,.int .i64 (tkH sz ts).at_,.string (txB (tkH sz ts)),.int .i64 (tkH sz ts).v.k,.int .i64 (tkH sz ts).v.n,.int .i64 (tkH sz ts).v.d,.string (tkH sz ts).v.s]))):=fun W hW=>next_at m R sz ts W (h.below hW)
 have hlt:=h.lt
 have rh2:Hid (∀ W:World,Calls Tryz.prog 84 #[.int .i64 2] W fun e w'=>e=.returned (.string ⟨#[116,101,115,116]⟩)∧w'=W):=fun W=>regexHead_any 2 W
 have rh3:Hid (∀ W:World,Calls Tryz.prog 84 #[.int .i64 3] W fun e w'=>e=.returned (.string ⟨#[97,108,116]⟩)∧w'=W):=fun W=>regexHead_any 3 W
 have rh4:Hid (∀ W:World,Calls Tryz.prog 84 #[.int .i64 4] W fun e w'=>e=.returned (.string ⟨#[115,101,113]⟩)∧w'=W):=fun W=>regexHead_any 4 W
 have rh5:Hid (∀ W:World,Calls Tryz.prog 84 #[.int .i64 5] W fun e w'=>e=.returned (.string ⟨#[115,116,97,114]⟩)∧w'=W):=fun W=>regexHead_any 5 W
 have hn2:((txB (tkH sz ts)).toList==[116,101,115,116])=false:=by rw [beq_data];exact decide_eq_false hx2
 have hn3:((txB (tkH sz ts)).toList==[97,108,116])=false:=by rw [beq_data];exact decide_eq_false hx3
 have hn4:((txB (tkH sz ts)).toList==[115,101,113])=false:=by rw [beq_data];exact decide_eq_false hx4
 have hn5:((txB (tkH sz ts)).toList==[115,116,97,114])=false:=by rw [beq_data];exact decide_eq_false hx5
 generalize (tkH sz ts).k=tk at*
 generalize (tkH sz ts).at_=ta at*
 generalize txB (tkH sz ts)=tx at*
 generalize (tkH sz ts).v.k=vk at*
 generalize (tkH sz ts).v.n=vn at*
 generalize (tkH sz ts).v.d=vd at*
 generalize (tkH sz ts).v.s=vs at*
 go_enter Tryz.func225,Tryz.ntmps225
 go_wp2_with fail
 refine (CN.out _ (by go_grown)).mono ?_
 rintro e w1 ⟨rfl,hF,hN⟩
 have z1:w.heap.size<w1.heap.size:=by have:=hF.size;simp at this;omega
 have X1:Hid (w1.heap[w.heap.size]? =some (.cells #[.int .i64 0,.slice none 0 0,.slice none 0 0] 91 (0,0))):=hF.heap (new_box w _) (fun e=>by omega)
 have F1:Hid (Fr (fun k=>k=R) w w1):=((Fr.refl (fun k=>k=R) w).alloc _).trans hF (fun k e=>Or.inl e)
 have N1:Hid (∀ t r,ts=t::r→RdAt m w1 R sz r):=hN
 clear hF hN CN
 go_upto_region 2 with fail
 refine wp_world ?_
 intro W2 hW2
 have X2:Hid (W2.heap[w.heap.size]? =some (.cells #[.int .i64 0,.slice none 0 0,.slice none 0 0] 91 (0,0))):=by rw [hW2];exact ((Fr.refl (fun k=>k=R) w1).alloc _).heap X1.out (fun e=>by omega)
 have V2:Hid (W2.heap[w1.heap.size]? =some (.cells #[.int .i64 tk,.int .i64 ta,.string tx,.int .i64 vk,.int .i64 vn,.int .i64 vd,.string vs] 58 (0,0))):=by rw [hW2];exact new_box w1 _
 have F2:Hid (Fr (fun k=>k=R) w W2):=by rw [hW2];exact F1.out.alloc _
 have A2:Hid (∀ t r,ts=t::r→RdAt m W2 R sz r):=fun t r e=>by rw [hW2];exact (N1.out t r e).below ((Below.refl w1.heap.size w1).alloc (Nat.le_refl _) _)
 have zz:w1.heap.size<W2.heap.size:=by rw [hW2];simp
 clear hW2 F1 N1 X1
 generalize w1.heap.size=n1 at*
 obtain ⟨v0,v1,v2,v3,v4,v5,v6⟩:=bx7 V2.out
 go_wp2_with fail
 refine (rh2.out _).mono ?_
 rintro e w92 ⟨rfl,hw9⟩
 obtain rfl:=hw9.symm
 clear rh2
 go_wp2_with fail
 refine (rh3.out _).mono ?_
 rintro e w93 ⟨rfl,hw9⟩
 obtain rfl:=hw9.symm
 clear rh3
 go_wp2_with fail
 refine (rh4.out _).mono ?_
 rintro e w94 ⟨rfl,hw9⟩
 obtain rfl:=hw9.symm
 clear rh4
 go_wp2_with fail
 refine (rh5.out _).mono ?_
 rintro e w95 ⟨rfl,hw9⟩
 obtain rfl:=hw9.symm
 clear rh5
 go_wp2_with fail
 refine (misplaced_at _ _ _ _ _ _ _ _).mono ?_
 rintro e w3 ⟨rfl,hb3⟩
 have F4:Fr (fun k=>k=R) w w3:=F2.out.trans (Fr.of_below (P:=fun _=>False) hb3) (fun _ q=>q.elim)
 clear hb3
 go_wp2
 exact ⟨rfl,rfl,F4⟩
theorem own_sliceQ {w:World} {B e size n:Nat} {v:Value} {xs:List Value} (h:w.ownsRow B e size v n xs):∃ b0 n0 c0,v=.slice b0 n0 c0∧n0≤c0:=by
 obtain ⟨-,⟨rfl, -⟩ | ⟨g,cap,cur,rfl, -, -,hn, -⟩⟩:=h
 ·exact ⟨_,_,_,rfl,Nat.le_refl _⟩
 ·exact ⟨_,_,_,rfl,hn⟩
theorem step_append_srcQ {P:Program} {ops:Array Oper} {o:Oper} {a:Act} {w:World} {K:Act→World→Prop} {Q:Exit→Act→World→Prop} {E:Prop}
  (hg:o.guard=none) (s x:Operand) (t:TypeId) (ho:o.op=Op.call {callee:=Callee.builtin Builtin.append,args:=#[s,x],argTypes:=#[t,t]})
  (base:Nat) (e:TypeId) (i:TypeInfo) (z:Value) (size bytes:Nat) (ht:P.underlying t=some (.slice e)) (hi:P.info? e=some i) (hz:i.zero=some z) (hsize:i.size=size) (hby:i.bytes=bytes) (hzs:z.cells.size=size) (hsz:0<size)
  (v:Value) (n:Nat) (xs:List Value) (hs:a.eval s=v) (hown:w.ownsRow base e size v n xs)
  (u:Value) (m:Nat) (news:List Value) (hx:a.eval x=u) (hsrc:SrcA w size u m news) (h1:∀ u∈news,u.oneCell'=true)
  (h63:n+m≤maxLen) (hbytes:(n+m)*bytes≤140737488355328) (hbase:base≤w.heap.size)
  (h:∀ v' w',w'.ownsRow base e size v' (n+m) (xs++news)→w.grownBy w' v.ownBlock→K (a.put o.dst v') w'):
  if Region.wanted o (yielded ops a.tmps)=true then Oper.wp P o a w K Q else E:=by
 rcases hsrc with ⟨p,c,rfl,rfl,rfl⟩ | ⟨ad,c,rfl,hl,hnews⟩
 ·obtain ⟨b0,n0,c0,rfl,hle⟩:=own_sliceQ hown
  have hw:Region.wanted o (yielded ops a.tmps)=true:=by simp [Region.wanted,hg]
  rw [if_pos hw]
  have hrun:=run_append_noneA (P:=P) w t o.type e i ht hi b0 n0 c0 p c hle
  unfold Oper.wp
  simp [execOp,ho,resolve,invoke,builtin,hs,hx,hrun,Result.andThen]
  exact h _ _ (by simpa using hown) ⟨rfl,rfl,rfl,Nat.le_refl _,fun _ _ _=>rfl⟩
 ·exact step_append_at hg s x t ho base e i z size bytes ht hi hz hsize hby hzs hsz v n xs hs hown ad m c news hx hl hnews h1 h63 hbytes hbase (fun v' w' q1 q2 _=>h v' w' q1 q2)
theorem src_names {w:World} {B:Nat} {v:Value} {L:List ByteArray} (h:OwnN B v L w):SrcA w 1 v L.length (L.map Value.string):=by
 obtain ⟨p,c,rfl, -,hL | ⟨g,rfl, -, -,hc⟩⟩:=h.cap
 ·subst hL
  exact Or.inl ⟨p,c,rfl,rfl,rfl⟩
 ·refine Or.inr ⟨⟨g,0,none⟩,c,rfl,by simp,fun j x hx=> ?_⟩
  rw [List.getElem?_map] at hx
  rw [Addr.add_lit]
  cases hj:L[j]? with
  | none=>rw [hj] at hx;cases hx
  | some s=>
   rw [hj] at hx
   injection hx with hx
   have hlt:=(List.getElem?_eq_some_iff.1 hj).1
   have he:=(List.getElem?_eq_some_iff.1 hj).2
   have q:=hc j hlt
   rw [he] at q
   rw [← hx]
   simpa using q
theorem nms_few {sz:Nat}:∀ {ts:List (Tok Val)} {l:List ByteArray} {r:List (Tok Val)},rNms sz ts=.ok l r→l.length≤ts.length
 | [],l,r,h=>by cases h
 | t::ts,l,r,h=>by
  rw [rNms] at h
  split at h
  ·injection h with h1 h2;subst h1;simp
  ·split at h
   ·cases hq:rNms sz ts with
    | bad e a=>rw [hq] at h;cases h
    | ok l2 r2=>
     rw [hq,Rd.bind_ok] at h
     injection h with h1 h2
     subst h1
     have:=nms_few hq
     simp;omega
   ·cases h
theorem list_few {sz N:Nat} {ts:List (Tok Val)} {l:List ByteArray} {r:List (Tok Val)} (hN:ts.length≤N) (h:rList sz ts=.ok l r):l.length≤N:=by
 unfold rList at h
 cases h1:rExp sz [40] ts with
 | bad e a=>rw [h1] at h;cases h
 | ok u r1=>
  rw [h1,Rd.bind_ok] at h
  have q1:=sh_exp sz _ ts _ _ h1
  cases h2:rNms sz r1 with
  | bad e a=>rw [h2] at h;cases h
  | ok l2 r2=>
   rw [h2,Rd.bind_ok] at h
   have q2:=nms_few h2
   cases h3:rExp sz [41] r2 with
   | bad e a=>rw [h3] at h;cases h
   | ok u3 r3=>
    rw [h3,Rd.bind_ok] at h
    injection h with e1 e2
    subst e1
    omega
theorem mkD (x:ByteArray):(⟨x.data.toList.toArray⟩:ByteArray)=x:=by cases x;simp
theorem bL_mk (l:List (List UInt8)):bL (l.map fun x=>⟨x.toArray⟩)=l:=by
 unfold bL
 rw [List.map_map]
 induction l with
 | nil=>rfl
 | cons x l ih=>simp [ih]
theorem own_lit (w:World) (x:ByteArray) (B:Nat) (hB:B≤w.heap.size):OwnN B (.slice (some ⟨w.heap.size,0,none⟩) 1 1) [x] (w.alloc (.cells #[.string x] 9)):=
 ⟨rfl,.inr ⟨w.heap.size,1,#[.string x],rfl,hB,new_box w _,Nat.le_refl _,by unfold maxLen;omega,rfl,rfl⟩⟩
theorem brk_any (xs:List ByteArray) (V:Value) (w:World) (hV:NmsAt w V xs) (hl:(jn (bL xs)).length≤1099511627776):
  Calls Tryz.prog 37 #[V] w fun e w'=>e=.returned (.string ⟨(brkt (bL xs)).toArray⟩)∧Below w.heap.size w w':=by
 have JN:Hid (Calls Tryz.prog 80 #[V,.string ⟨#[32]⟩] w fun e w'=>e=.returned (.string ⟨(jn (bL xs)).toArray⟩)∧Below w.heap.size w w'):=join_any xs V w hV hl
 obtain ⟨p,c,rfl, -⟩:=hV.form
 generalize xs.length=n at*
 obtain ⟨S,eS⟩:∃ S:ByteArray,Hid ((⟨(jn (bL xs)).toArray⟩:ByteArray)=S):=⟨_,rfl⟩
 rw [eS.out] at JN
 have sS:S.size≤1099511627776:=by rw [← eS.out];show (jn (bL xs)).toArray.size≤_;simpa using hl
 have x1:∀ W:World,(Op.stringOp .add ⟨#[40]⟩ S).run Tryz.prog W=.ok (.string (⟨#[40]⟩++S)) W:=fun W=>run_string_add_sum W _ _ (by have:(⟨#[40]⟩:ByteArray).size=1:=rfl
                                                                                                                                  omega)
 obtain ⟨C,eC⟩:∃ C:ByteArray,Hid (⟨#[40]⟩++S=C):=⟨_,rfl⟩
 rw [eC.out] at x1
 have sC:C.size≤1099511627777:=by rw [← eC.out,ByteArray.size_append];have:(⟨#[40]⟩:ByteArray).size=1:=rfl
                                  omega
 have x2:∀ W:World,(Op.stringOp .add C ⟨#[41]⟩).run Tryz.prog W=.ok (.string (C++⟨#[41]⟩)) W:=fun W=>run_string_add_sum W _ _ (by have:(⟨#[41]⟩:ByteArray).size=1:=rfl
                                                                                                                                  omega)
 have eF:Hid (C++⟨#[41]⟩=⟨(brkt (bL xs)).toArray⟩):=by
  rw [← eC.out,← eS.out]
  apply ByteArray.ext
  simp [brkt]
 obtain ⟨D,eD⟩:∃ D:ByteArray,Hid (C++⟨#[41]⟩=D):=⟨_,rfl⟩
 rw [eD.out] at x2 eF
 rw [← eF.out]
 clear eF eD eC eS sS sC hV hl
 go_enter Tryz.func37,Tryz.ntmps37
 go_wp2_with fail
 refine JN.out.mono ?_
 rintro e w1 ⟨rfl,hb⟩
 go_wp2
 go_ret
 exact ⟨rfl,hb⟩
theorem fmt_any (n:Int) (w:World) (h1: -9223372036854775808≤n) (h2:n≤9223372036854775807) (ht:Pow w):
  Calls Tryz.prog 81 #[.int .i64 n,.int .i64 10] w fun e w'=>e=.returned (.string ⟨(Lib.itoa n).toArray⟩)∧Below w.heap.size w w':=by
 refine (Tryz.strconv_FormatInt_10 n h1 h2 _ ht).mono ?_
 rintro e w1 ⟨rfl,k,os,rfl⟩
 exact ⟨rfl,below_grow w k os⟩
theorem ivt_any (lo hi:Int) (o:Bool) (w:World) (h1: -9223372036854775808≤lo) (h2:lo≤9223372036854775807) (g1: -9223372036854775808≤hi) (g2:hi≤9223372036854775807) (ht:Pow w):
  Calls Tryz.prog 38 #[.agg #[.int .i64 lo,.int .i64 hi,.bool o]] w fun e w'=>e=.returned (.string ⟨(ivT lo hi o).toArray⟩)∧Below w.heap.size w w':=by
 have lA:=Lib.itoa_length_le lo h1 h2
 have lB:=Lib.itoa_length_le hi g1 g2
 have FA:Hid (∀ W:World,Below w.heap.size w W→Calls Tryz.prog 81 #[.int .i64 lo,.int .i64 10] W fun e w'=>e=.returned (.string ⟨(Lib.itoa lo).toArray⟩)∧Below W.heap.size W w'):=fun W hW=>fmt_any lo W h1 h2 (ht.below hW)
 have FB:Hid (∀ W:World,Below w.heap.size w W→Calls Tryz.prog 81 #[.int .i64 hi,.int .i64 10] W fun e w'=>e=.returned (.string ⟨(Lib.itoa hi).toArray⟩)∧Below W.heap.size W w'):=fun W hW=>fmt_any hi W g1 g2 (ht.below hW)
 obtain ⟨A,eA⟩:∃ A:ByteArray,Hid ((⟨(Lib.itoa lo).toArray⟩:ByteArray)=A):=⟨_,rfl⟩
 obtain ⟨B,eB⟩:∃ B:ByteArray,Hid ((⟨(Lib.itoa hi).toArray⟩:ByteArray)=B):=⟨_,rfl⟩
 have sA:A.size≤21:=by rw [← eA.out];show (Lib.itoa lo).toArray.size≤21;simpa using lA
 have sB:B.size≤21:=by rw [← eB.out];show (Lib.itoa hi).toArray.size≤21;simpa using lB
 rw [eA.out] at FA
 rw [eB.out] at FB
 have one:∀ c:UInt8,(⟨#[c]⟩:ByteArray).size=1:=fun c=>rfl
 have y1:∀ W:World,(Op.stringOp .add ⟨#[91]⟩ A).run Tryz.prog W=.ok (.string (⟨#[91]⟩++A)) W:=fun W=>run_string_add_sum W _ _ (by rw [one];omega)
 obtain ⟨C,eC⟩:∃ C:ByteArray,Hid (⟨#[91]⟩++A=C):=⟨_,rfl⟩
 rw [eC.out] at y1
 have sC:C.size≤22:=by rw [← eC.out,ByteArray.size_append,one];omega
 have y2:∀ W:World,(Op.stringOp .add C ⟨#[44]⟩).run Tryz.prog W=.ok (.string (C++⟨#[44]⟩)) W:=fun W=>run_string_add_sum W _ _ (by rw [one];omega)
 obtain ⟨D,eD⟩:∃ D:ByteArray,Hid (C++⟨#[44]⟩=D):=⟨_,rfl⟩
 rw [eD.out] at y2
 have sD:D.size≤23:=by rw [← eD.out,ByteArray.size_append,one];omega
 cases o with
 | true=>
  have y3:∀ W:World,(Op.stringOp .add D ⟨#[42]⟩).run Tryz.prog W=.ok (.string (D++⟨#[42]⟩)) W:=fun W=>run_string_add_sum W _ _ (by rw [one];omega)
  obtain ⟨E,eE⟩:∃ E:ByteArray,Hid (D++⟨#[42]⟩=E):=⟨_,rfl⟩
  rw [eE.out] at y3
  have sE:E.size≤24:=by rw [← eE.out,ByteArray.size_append,one];omega
  have y4:∀ W:World,(Op.stringOp .add E ⟨#[93]⟩).run Tryz.prog W=.ok (.string (E++⟨#[93]⟩)) W:=fun W=>run_string_add_sum W _ _ (by rw [one];omega)
  obtain ⟨G,eG⟩:∃ G:ByteArray,Hid (E++⟨#[93]⟩=G):=⟨_,rfl⟩
  rw [eG.out] at y4
  have eF:Hid ((⟨(ivT lo hi true).toArray⟩:ByteArray)=G):=by
   rw [← eG.out,← eE.out,← eD.out,← eC.out,← eA.out]
   apply ByteArray.ext
   simp [ivT]
  rw [eF.out]
  clear eF eG eE eD eC eB eA sA sB sC sD sE lA lB FB one
  go_enter Tryz.func38,Tryz.ntmps38
  go_wp2_with fail
  refine (FA.out _ (by go_grown)).mono ?_
  rintro e w1 ⟨rfl,hb⟩
  go_wp2
  go_ret
  exact ⟨rfl,((Below.refl w.heap.size w).alloc (Nat.le_refl _) _).trans (hb.mono (by simp))⟩
 | false=>
  have y3:∀ W:World,(Op.stringOp .add D B).run Tryz.prog W=.ok (.string (D++B)) W:=fun W=>run_string_add_sum W _ _ (by omega)
  obtain ⟨E,eE⟩:∃ E:ByteArray,Hid (D++B=E):=⟨_,rfl⟩
  rw [eE.out] at y3
  have sE:E.size≤44:=by rw [← eE.out,ByteArray.size_append];omega
  have y4:∀ W:World,(Op.stringOp .add E ⟨#[93]⟩).run Tryz.prog W=.ok (.string (E++⟨#[93]⟩)) W:=fun W=>run_string_add_sum W _ _ (by rw [one];omega)
  obtain ⟨G,eG⟩:∃ G:ByteArray,Hid (E++⟨#[93]⟩=G):=⟨_,rfl⟩
  rw [eG.out] at y4
  have eF:Hid ((⟨(ivT lo hi false).toArray⟩:ByteArray)=G):=by
   rw [← eG.out,← eE.out,← eD.out,← eC.out,← eA.out,← eB.out]
   apply ByteArray.ext
   simp [ivT]
  rw [eF.out]
  clear eF eG eE eD eC eB eA sA sB sC sD sE lA lB one
  go_enter Tryz.func38,Tryz.ntmps38
  go_wp2_with fail
  refine (FB.out _ (by go_grown)).mono ?_
  rintro e w1 ⟨rfl,hb⟩
  have c0:w1.cell? ⟨w.heap.size,0,none⟩=some (.int .i64 lo):=(hb.cell (p:=⟨w.heap.size,0,none⟩) (by simp)).trans (by simp [go_sem])
  have hB1:Below w.heap.size w w1:=((Below.refl w.heap.size w).alloc (Nat.le_refl _) _).trans (hb.mono (by simp))
  clear hb FB
  go_wp2_with fail
  refine (FA.out _ hB1).mono ?_
  rintro e w2 ⟨rfl,hb2⟩
  go_wp2
  go_ret
  exact ⟨rfl,hB1.trans (hb2.mono hB1.size)⟩
theorem tms_ft:∀ {w:World} {v:Value} {ts:List Tm},TmsAt w v ts→ftTs ts:=by
 intro w v ts h
 induction h with
 | nil=>rw [ftTs];trivial
 | row us hl fit hc hB cells sub ih=>
  rename_i ts
  have key:∀ l:List Tm,(∀ i (h:i<l.length),l[i].v.Fits∧ftTs l[i].subs)→ftTs l:=by
   intro l
   induction l with
   | nil=>intro _;rw [ftTs];trivial
   | cons t l ihl=>
    intro hh
    rw [ftTs_cons,ftT_eq]
    exact ⟨hh 0 (by simp),ihl (fun i hi=>hh (i+1) (by simp;omega))⟩
  exact key ts (fun i hi=>⟨fit i hi,ih i hi⟩)
theorem ftTs_mem:∀ {l:List Tm},ftTs l→∀ t∈l,ftT t
 | [],_,t,h=>by cases h
 | x::l,hw,t,h=>by
  rw [ftTs_cons] at hw
  rcases List.mem_cons.1 h with rfl | h
  ·exact hw.1
  ·exact ftTs_mem hw.2 t h
theorem nodTs_mem:∀ {l:List Tm},∀ t∈l,nodT t≤nodTs l
 | [],t,h=>by cases h
 | x::l,t,h=>by
  rw [nodTs_cons]
  rcases List.mem_cons.1 h with rfl | h
  ·omega
  ·have:=nodTs_mem t h;omega
def TxT (t:Tm) (w:World) (u:Value):Prop:=Calls Tryz.prog 40 #[.agg #[.int .i64 t.k,.string t.nm,.int .i64 t.v.k,.int .i64 t.v.n,.int .i64 t.v.d,.string t.v.s,u]] w fun e w'=>e=.returned (.string ⟨(txT t).toArray⟩)∧Below w.heap.size w w'
theorem txt_var (nm:ByteArray) (vk vn vd:Int) (vs:ByteArray) (p:Option Addr) (n c:Nat) (w:World):
  Calls Tryz.prog 40 #[.agg #[.int .i64 1,.string nm,.int .i64 vk,.int .i64 vn,.int .i64 vd,.string vs,.slice p n c]] w fun e w'=>e=.returned (.string nm)∧Below w.heap.size w w':=by
 go_enter Tryz.func40,Tryz.ntmps40
 go_wp2
 go_ret
 exact ⟨rfl,by go_grown⟩
theorem txt_const (nm:ByteArray) (vk vn vd:Int) (vs:ByteArray) (p:Option Addr) (n c:Nat) (w:World) (S:ByteArray) (HP:Hid (∀ W:World,Below w.heap.size w W→Calls Tryz.prog 82 #[.agg #[.int .i64 vk,.int .i64 vn,.int .i64 vd,.string vs]] W fun e w'=>e=.returned (.tuple #[.string S,.int .i64 0])∧Below W.heap.size W w')):
  Calls Tryz.prog 40 #[.agg #[.int .i64 2,.string nm,.int .i64 vk,.int .i64 vn,.int .i64 vd,.string vs,.slice p n c]] w fun e w'=>e=.returned (.string S)∧Below w.heap.size w w':=by
 go_enter Tryz.func40,Tryz.ntmps40
 go_wp2_with fail
 refine (HP.out _ (by go_grown)).mono ?_
 rintro e w1 ⟨rfl,hb⟩
 go_wp2
 go_ret
 exact ⟨rfl,((Below.refl w.heap.size w).alloc (Nat.le_refl _) _).trans (hb.mono (by simp))⟩
theorem txt_op (k:Int) (nm:ByteArray) (vk vn vd:Int) (vs:ByteArray) (p:Option Addr) (n c:Nat) (w:World) (h1:¬ k=1) (h2:¬ k=2) (L:List ByteArray) (H:ByteArray) (hH:Hid (H=⟨(hdT k).toArray⟩)) (hLn:L.length≤1000) (hl:Hid ((jn (bL (H::L))).length≤1099511627776))
  (EK:Hid (∀ W:World,Below w.heap.size w W→Calls Tryz.prog 39 #[.slice p n c,.func (.func 40) #[] #[]] W fun e w'=>∃ v,e=.returned v∧OwnN W.heap.size v L w'∧Below W.heap.size W w')):
  Calls Tryz.prog 40 #[.agg #[.int .i64 k,.string nm,.int .i64 vk,.int .i64 vn,.int .i64 vd,.string vs,.slice p n c]] w fun e w'=>e=.returned (.string ⟨(brkt (bL (H::L))).toArray⟩)∧Below w.heap.size w w':=by
 obtain ⟨i0,hi,hz0,hz1,hz2⟩:=info_parts inStA
 have CH:Hid (∀ W:World,Calls Tryz.prog 83 #[.int .i64 k] W fun e w'=>e=.returned (.string H)∧w'=W):=fun W=>by rw [hH.out];exact termHead_any k W
 have BK:Hid (∀ (W:World) (V:Value),NmsAt W V (H::L)→Calls Tryz.prog 37 #[V] W fun e w'=>e=.returned (.string ⟨(brkt (bL (H::L))).toArray⟩)∧Below W.heap.size W w'):=fun W V hV=>brk_any _ V W hV hl.out
 generalize (⟨(brkt (bL (H::L))).toArray⟩:ByteArray)=RS at*
 clear hl hH
 have k1:(k==1)=false:=by simpa using h1
 have k2:(k==2)=false:=by simpa using h2
 go_enter Tryz.func40,Tryz.ntmps40
 go_upto_region 7 with fail
 refine wp_world ?_
 intro W0 hW0
 have c0:W0.cell? ⟨w.heap.size,0,none⟩=some (.int .i64 k):=by rw [hW0];simp [go_sem]
 have c6:W0.cell? ⟨w.heap.size,6,none⟩=some (.slice p n c):=by rw [hW0];simp [go_sem]
 have k0:Below w.heap.size w W0:=by rw [hW0];exact (Below.refl _ _).alloc (Nat.le_refl _) _
 have z0:w.heap.size<W0.heap.size:=by rw [hW0];simp
 clear hW0
 have y0:W0.cell? ⟨w.heap.size,0,none⟩=some (.int .i64 k):=c0
 have KE:Hid (∀ W:World,Below W0.heap.size W0 W→Calls Tryz.prog 39 #[.slice p n c,.func (.func 40) #[] #[]] W fun e w'=>∃ v,e=.returned v∧OwnN W.heap.size v L w'∧Below W.heap.size W w'):=fun W hW=>EK.out W (k0.trans (hW.mono (Nat.le_of_lt z0)))
 clear EK
 go_region_law (first
  | (go_simp;go_at_call 83;refine (CH.out _).mono ?_;rintro e w1 ⟨rfl,hw1⟩;obtain rfl:=hw1.symm)
  | (go_simp;go_at_call 39;refine (KE.out _ (by go_grown)).mono ?_;rintro e w2 ⟨v2,rfl,hO2,hb2⟩;obtain ⟨p2,c2,rfl, -⟩:=hO2.cap)
  | (have hA:OwnN w.heap.size (.slice (some ⟨W0.drew.heap.size,0,none⟩) 1 1) [H] w2:=OwnN.bel (own_lit W0.drew H w.heap.size (Nat.le_of_lt z0)) hb2;have hO3:OwnN (W0.drew.alloc (.cells #[.string H] 9)).heap.size (.slice p2 L.length c2) L w2:=hO2;have hz9:w.heap.size≤w2.heap.size:=(by have q:=hb2.size;simp at q;omega);have hBw:Below w.heap.size w w2:=(k0.trans (((Below.refl W0.heap.size W0).drew.alloc (Nat.le_refl _) _).mono (Nat.le_of_lt z0))).trans (hb2.mono (by simp;omega));refine step_append_srcQ rfl (.tmp 23) (.tmp 26) 22 rfl w.heap.size 9 i0 (.string ByteArray.empty) 1 16 Tryz.underlying22 hi hz0 hz1 hz2 rfl (by decide) (.slice (some ⟨W0.drew.heap.size,0,none⟩) 1 1) 1 [.string H] (by simp [Act.eval]) hA (.slice p2 L.length c2) L.length (L.map Value.string) (by simp [Act.eval]) (src_names hO3) (by intro u hu;obtain ⟨s, -,rfl⟩:=List.mem_map.1 hu;rfl) (by unfold maxLen;omega) (by omega) hz9 (fun v' w9 h2 h3=> ?_);have hN9:NmsAt w9 v' (H::L):=(OwnN.nms (L:=H::L) (B:=w.heap.size) (by show w9.ownsRow _ _ _ _ _ _;rw [List.length_cons,Nat.add_comm];exact h2) (by simp;omega));have hB9:Hid (Below w.heap.size w w9):=(Below.grown hBw h3 (by first | omega | (simp;omega)) (fun q hq=>(World.ownsRow.lt hA q hq).1)))
  | (have hA:OwnN w.heap.size (.slice (some ⟨w2.heap.size,0,none⟩) 1 1) [H] (w2.alloc (.cells #[.string H] 9)):=own_lit w2 H w.heap.size (by have q:=hb2.size;simp at q;omega);have hO3:OwnN W0.drew.heap.size (.slice p2 L.length c2) L (w2.alloc (.cells #[.string H] 9)):=OwnN.bel hO2 ((Below.refl w2.heap.size w2).alloc (Nat.le_refl _) _);have hz9:w.heap.size≤(w2.alloc (.cells #[.string H] 9)).heap.size:=(by have q:=hb2.size;simp at q ⊢;omega);have hBw:Below w.heap.size w (w2.alloc (.cells #[.string H] 9)):=((k0.trans ((Below.refl W0.heap.size W0).drew.mono (Nat.le_of_lt z0))).trans (hb2.mono (by simp;omega))).alloc (by have q:=hb2.size;simp at q;omega) _;refine step_append_srcQ rfl (.tmp 23) (.tmp 26) 22 rfl w.heap.size 9 i0 (.string ByteArray.empty) 1 16 Tryz.underlying22 hi hz0 hz1 hz2 rfl (by decide) (.slice (some ⟨w2.heap.size,0,none⟩) 1 1) 1 [.string H] (by simp [Act.eval]) hA (.slice p2 L.length c2) L.length (L.map Value.string) (by simp [Act.eval]) (src_names hO3) (by intro u hu;obtain ⟨s, -,rfl⟩:=List.mem_map.1 hu;rfl) (by unfold maxLen;omega) (by omega) hz9 (fun v' w9 h2 h3=> ?_);have hN9:NmsAt w9 v' (H::L):=(OwnN.nms (L:=H::L) (B:=w.heap.size) (by show w9.ownsRow _ _ _ _ _ _;rw [List.length_cons,Nat.add_comm];exact h2) (by simp;omega));have hB9:Hid (Below w.heap.size w w9):=(Below.grown hBw h3 (by first | omega | (simp;omega)) (fun q hq=>(World.ownsRow.lt hA q hq).1)))
  | (go_simp;go_at_call 37;refine (BK.out w9 _ hN9).mono ?_;rintro e w10 ⟨rfl,hb10⟩))
 all_goals (
  have z9:=hB9.out.size
  go_wp2
  go_ret
  exact ⟨rfl,hB9.out.trans (hb10.mono z9)⟩)
theorem txT_any:∀ (m:Nat) (t:Tm) (u:Value) (w:World),SizeOf.sizeOf t≤m→TmsAt w u t.subs→t.v.Fits→wfT t→nodT t≤256→Pow w→TxT t w u:=by
 intro m
 induction m with
 | zero=>intro t u w hm;have:=Tm.subs_lt t;omega
 | succ m ih=>
  intro t u w hm hu hf hw hn ht
  have hw':=hw
  rw [wfT_eq] at hw
  have hft:=tms_ft hu
  have hlen:=tms_len _ [t] (Nat.le_refl _) (by rw [wfTs_cons,wfTs_nil];exact ⟨hw',trivial⟩) (by rw [ftTs_cons,ftT_eq,ftTs];exact ⟨⟨hf,hft⟩,trivial⟩)
  have hlt:=hlen.2 t (by simp)
  unfold TxT
  obtain ⟨p,c,e,h63,hc, -⟩:=hu.form
  rcases tm_facts hw.1 with ⟨h1,h2, -⟩ | ⟨h1,h2, -⟩ | ⟨h1,h2, -⟩
  ·rw [txT_eq,if_pos h1,mkD,h1,e]
   exact txt_var _ _ _ _ _ _ _ _ w
  ·rw [txT_eq,if_neg (by omega),if_pos h1,h1,e]
   refine txt_const _ _ _ _ _ _ _ _ w _ (fun W hW=> ?_)
   obtain ⟨f1,f2,f3,f4⟩:=hf
   have q:=print_any t.v.k t.v.n t.v.d t.v.s W f1 f2 f3 f4 (ht.below hW)
   have hc0:chk t.v.k t.v.n t.v.d t.v.s=0:=h2
   rw [hc0,if_pos rfl] at q
   exact q
  ·rw [txT_eq,if_neg (by omega),if_neg (by omega)] at hlt ⊢
   rw [nodT_eq] at hn hlt
   have hnl:=nodTs_len t.subs
   have e2:bL ((⟨(hdT t.k).toArray⟩:ByteArray)::(t.subs.map fun x=>⟨(txT x).toArray⟩))=hdT t.k::txTs t.subs:=by
    rw [txTs_map]
    show (hdT t.k).toArray.toList::bL (t.subs.map fun x=>⟨(txT x).toArray⟩)=_
    have q:=bL_mk (t.subs.map txT)
    rw [List.map_map] at q
    have q2:bL (t.subs.map fun x=>⟨(txT x).toArray⟩)=t.subs.map txT:=q
    rw [q2]
   rw [← e2] at hlt ⊢
   rw [e]
   refine txt_op t.k _ _ _ _ _ _ _ _ w (by omega) (by omega) (t.subs.map fun x=>⟨(txT x).toArray⟩) _ (show _=_ from rfl) (by simp;omega) (show _≤_ from ?_) (fun W hW=> ?_)
   ·have q:(brkt (bL ((⟨(hdT t.k).toArray⟩:ByteArray)::(t.subs.map fun x=>⟨(txT x).toArray⟩)))).length≤1000*(1+nodTs t.subs):=by omega
    unfold brkt at q
    simp only [List.length_cons,List.length_append,List.length_nil] at q
    omega
   ·rw [← e]
    refine eachT_any t.subs u W (hu.bel hW) (by omega) (fun i hi u' W' hW' hu'=> ?_)
    have hmem:t.subs[i]∈t.subs:=List.getElem_mem hi
    have hfi:=ftTs_mem hft _ hmem
    rw [ftT_eq] at hfi
    exact ih t.subs[i] u' W' (by have:=mem_lt i hi;have:=Tm.subs_lt t;omega) (hu'.bel hW') hfi.1 (wfTs_mem hw.2 _ hmem) (by have:=nodTs_mem _ hmem;omega) ((ht.below hW).below hW')
theorem row_cast {w:World} {B e size n n':Nat} {v:Value} {xs xs':List Value} (h:w.ownsRow B e size v n xs) (hn:n=n') (hx:xs=xs'):w.ownsRow B e size v n' xs':=by
 subst hn hx
 exact h
theorem ftx_T (k op lo hh:Int) (nm:ByteArray) (oo:Bool) (pv pt ps pr:Option Addr) (nv nt ns nr cv ct cs cr:Nat) (hd:ByteArray) (qt qr qs:Int) (qm:Bool) (IV:ByteArray) (LT LR LF:List ByteArray) (RS:ByteArray) (w:World) (h1:¬ k=1) (h2:¬ k=2) (SC:Hid (∀ W:World,Calls Tryz.prog 35 #[.int .i64 k] W fun e w'=>e=.returned (.agg #[.string hd,.bool false,.bool false,.bool false,.bool true,.int .i64 qt,.int .i64 qr,.int .i64 qs,.bool qm])∧Below W.heap.size W w')) (IC:Hid (∀ W:World,Below w.heap.size w W→Calls Tryz.prog 38 #[.agg #[.int .i64 lo,.int .i64 hh,.bool oo]] W fun e w'=>e=.returned (.string IV)∧Below W.heap.size W w')) (ET:Hid (∀ W:World,Below w.heap.size w W→Calls Tryz.prog 39 #[.slice pt nt ct,.func (.func 40) #[] #[]] W fun e w'=>∃ v,e=.returned v∧OwnN W.heap.size v LT w'∧Below W.heap.size W w')) (ER:Hid (∀ W:World,Below w.heap.size w W→Calls Tryz.prog 41 #[.slice pr nr cr,.func (.func 42) #[] #[]] W fun e w'=>∃ v,e=.returned v∧OwnN W.heap.size v LR w'∧Below W.heap.size W w')) (EF:Hid (∀ W:World,Below w.heap.size w W→Calls Tryz.prog 43 #[.slice ps ns cs,.func (.func 20) #[] #[]] W fun e w'=>∃ v,e=.returned v∧OwnN W.heap.size v LF w'∧Below W.heap.size W w')) (hLT:LT.length≤1000) (hLR:LR.length≤1000) (hLF:LF.length≤1000) (BK:Hid (∀ (W:World) (V:Value),NmsAt W V ([hd,IV]++LT++LR++LF)→Calls Tryz.prog 37 #[V] W fun e w'=>e=.returned (.string RS)∧Below W.heap.size W w')) (hhd:hd.toList≠[]):
  Calls Tryz.prog 20 #[.agg #[.int .i64 k,.string nm,.int .i64 op,.slice pv nv cv,.slice pt nt ct,.int .i64 lo,.int .i64 hh,.bool oo,.slice ps ns cs,.slice pr nr cr]] w fun e w'=>e=.returned (.string RS)∧Below w.heap.size w w':=by
 obtain ⟨i0,hi,hz0,hz1,hz2⟩:=info_parts inStA
 have k1:(k==1)=false:=by simpa using h1
 have k2:(k==2)=false:=by simpa using h2
 have hd1:(!hd.toList.isEmpty)=true:=by
  cases h:hd.toList with
  | nil=>exact absurd h hhd
  | cons a l=>rfl
 clear hhd
 go_enter Tryz.func20,Tryz.ntmps20
 go_upto_region 7 with fail
 refine wp_world ?_
 intro W0 hW0
 have X0:Hid (W0.heap[w.heap.size]? =some (.cells #[.int .i64 k,.string nm,.int .i64 op,.slice pv nv cv,.slice pt nt ct,.int .i64 lo,.int .i64 hh,.bool oo,.slice ps ns cs,.slice pr nr cr] 29 (0,0))):=by rw [hW0];exact new_box w _
 have B0:Below w.heap.size w W0:=by rw [hW0];exact (Below.refl _ _).alloc (Nat.le_refl _) _
 have z0:w.heap.size<W0.heap.size:=by rw [hW0];simp
 clear hW0
 obtain ⟨c0, -, -,c3, -, -, -, -, -, -⟩:=bx10 X0.out
 go_cut [4,5] (fun v4 v5 wx=>∃ SB,v4=.pointer (some ⟨SB,0,none⟩)∧v5=.slice pv nv cv∧Hid (wx.heap[SB]? =some (.cells #[.string hd,.bool false,.bool false,.bool false,.bool true,.int .i64 qt,.int .i64 qr,.int .i64 qs,.bool qm] 82 (0,0)))∧Hid (wx.heap[w.heap.size]? =some (.cells #[.int .i64 k,.string nm,.int .i64 op,.slice pv nv cv,.slice pt nt ct,.int .i64 lo,.int .i64 hh,.bool oo,.slice ps ns cs,.slice pr nr cr] 29 (0,0)))∧Hid (Below w.heap.size w wx))
 case first=>
  go_region_law (first
   | (go_simp;go_at_call 35;refine (SC.out _).mono ?_;rintro e w1 ⟨rfl,hb1⟩;have hx1:Below W0.drew.heap.size W0.drew w1:=hb1;have hs1:W0.heap.size≤w1.heap.size:=hx1.size;have d3:w1.cell? ⟨w.heap.size,3,none⟩=some (.slice pv nv cv):=(hx1.cell (p:=⟨w.heap.size,3,none⟩) z0).trans c3;have zz1:w.heap.size<w1.heap.size:=Nat.lt_of_lt_of_le z0 hs1)
   | (go_simp;go_at_call 35;refine (SC.out _).mono ?_;rintro e w1 ⟨rfl,hb1⟩;have hx1:Below (W0.alloc (.cells #[.string ⟨#[]⟩,.bool false,.bool false,.bool false,.bool false,.int .i64 0,.int .i64 0,.int .i64 0,.bool false] 82)).drew.heap.size (W0.alloc (.cells #[.string ⟨#[]⟩,.bool false,.bool false,.bool false,.bool false,.int .i64 0,.int .i64 0,.int .i64 0,.bool false] 82)).drew w1:=hb1;have hs1:W0.heap.size+1≤w1.heap.size:=(by have q:=hx1.size;simp at q;exact q);have d3:w1.cell? ⟨w.heap.size,3,none⟩=some (.slice pv nv cv):=((hx1.cell (p:=⟨w.heap.size,3,none⟩) (by simp;omega)).trans ((bcl (n:=W0.heap.size) ((Below.refl W0.heap.size W0).alloc (Nat.le_refl _) _) c3 z0)));have hS1:w1.heap[W0.heap.size]? =some (.cells #[.string ⟨#[]⟩,.bool false,.bool false,.bool false,.bool false,.int .i64 0,.int .i64 0,.int .i64 0,.bool false] 82 (0,0)):=(hx1.block W0.heap.size (by simp)).trans (new_box W0 _);obtain ⟨s0,s1,s2,s3,s4,s5,s6,s7,s8⟩:=bx9 hS1;obtain ⟨r0,r1,r2,r3,r4,r5,r6,r7,r8⟩:=bz9 hS1))
  all_goals (
   go_wp2_with fail
   go_meet
   first
   | (have _g:=zz1;exact ⟨w1.heap.size,rfl,rfl,new_box w1 _,(Below.heap_alloc _ _ _ zz1).trans ((hx1.block _ z0).trans X0.out),(B0.trans ((Below.drew (Below.refl W0.heap.size W0)).trans hx1 |>.mono (Nat.le_of_lt z0))).alloc (Nat.le_of_lt zz1) _⟩)
   | (have _g:=hS1;exact ⟨W0.heap.size,rfl,rfl,put9 hS1,(frp9 (P:=fun k=>k=W0.heap.size) (Fr.refl _ w1) (Or.inl rfl) _ _ _ _ _ _ _ _ _).heap ((hx1.block _ (by simp;omega)).trans ((Below.heap_alloc _ _ _ z0).trans X0.out)) (fun e=>by omega),(B0.trans ((((Below.refl W0.heap.size W0).alloc (Nat.le_refl _) _).drew.trans (hx1.mono (by simp))).mono (Nat.le_of_lt z0))).trans ((frp9 (P:=fun k=>k=W0.heap.size) (Fr.refl _ w1) (Or.inl rfl) _ _ _ _ _ _ _ _ _).below (by omega) (fun k e=>by omega))⟩))
 case rest=>
 obtain ⟨SB,rfl,rfl,S7,X7,BQ⟩:=hcut
 have B7:Below w.heap.size w wc:=BQ.out
 clear c0 c3 X0 B0 z0 SC BQ
 have O7:Hid (OwnN w.heap.size (.slice none 0 0) [] wc):=OwnN.nil _ _
 obtain ⟨x0,x1,x2,x3,x4,x5,x6,x7,x8,x9⟩:=bx10 X7.out
 obtain ⟨s0,s1,s2,s3,s4,s5,s6,s7,s8⟩:=bx9 S7.out
 have z7:=B7.size
 go_wp2_with (at_builtin;refine wpList_append_own _ rfl _ _ 22 rfl w.heap.size 9 i0 (.string ByteArray.empty) 1 16 Tryz.underlying22 hi hz0 hz1 hz2 rfl (by decide) _ _ _ rfl (World.ownsRow.alloc O7.out _) ⟨wc.heap.size,0,none⟩ 1 1 [.string hd] rfl rfl ?cc1 ?cc2 ?cc3 ?cc4 ?cc5 ?_)
 case cc1=>(intro j u hj;rw [Addr.add_lit];(rcases j with _ | j)<;>simp at hj<;>subst hj<;>simp (maxDischargeDepth:=12) [go_sem])
 case cc2=>(intro u hu;simp at hu;subst hu;rfl)
 case cc3=>unfold maxLen;simp;try omega
 case cc4=>simp;try omega
 case cc5=>first | omega | (simp;omega)
 intro v8 w8 h2 h3 _
 have X8:Hid (w8.heap[w.heap.size]? =_):=(h3.block _ (Nat.lt_succ_of_lt (lt_heap X7.out) |> fun q=>by simpa using q) (own_neX O7.out X7.out (by decide)).symm).trans ((Below.heap_alloc _ _ _ (lt_heap X7.out)).trans X7.out)
 have S8:Hid (w8.heap[SB]? =_):=(h3.block _ (Nat.lt_succ_of_lt (lt_heap S7.out) |> fun q=>by simpa using q) (own_neX O7.out S7.out (by decide)).symm).trans ((Below.heap_alloc _ _ _ (lt_heap S7.out)).trans S7.out)
 have B8:Below w.heap.size w w8:=Below.grown (B7.alloc z7 _) h3 (by simp;omega) (fun q hq=>(World.ownsRow.lt O7.out q hq).1)
 have O8:Hid (OwnN w.heap.size v8 [hd] w8):=h2
 obtain ⟨p8,c8,rfl⟩:∃ p c,v8=.slice p 1 c:=by obtain ⟨p,c,h, -⟩:=O8.out.cap;exact ⟨p,c,h⟩
 clear h2 h3 X7 S7 B7 O7 z7 x0 x1 x2 x3 x4 x5 x6 x7 x8 x9 s0 s1 s2 s3 s4 s5 s6 s7 s8
 obtain ⟨x0,x1,x2,x3,x4,x5,x6,x7,x8,x9⟩:=bx10 X8.out
 obtain ⟨s0,s1,s2,s3,s4,s5,s6,s7,s8⟩:=bx9 S8.out
 go_wp2_with fail
 refine (IC.out _ B8).mono ?_
 rintro e w9 ⟨rfl,hb⟩
 have X9:Hid (w9.heap[w.heap.size]? =_):=(hb.block _ (lt_heap X8.out)).trans X8.out
 have S9:Hid (w9.heap[SB]? =_):=(hb.block _ (lt_heap S8.out)).trans S8.out
 have B9:Below w.heap.size w w9:=B8.trans (hb.mono B8.size)
 have O9:Hid (OwnN w.heap.size (.slice p8 1 c8) [hd] w9):=O8.out.bel hb
 clear hb X8 S8 B8 O8 x0 x1 x2 x3 x4 x5 x6 x7 x8 x9 s0 s1 s2 s3 s4 s5 s6 s7 s8
 obtain ⟨x0,x1,x2,x3,x4,x5,x6,x7,x8,x9⟩:=bx10 X9.out
 obtain ⟨s0,s1,s2,s3,s4,s5,s6,s7,s8⟩:=bx9 S9.out
 have z9:=B9.size
 go_wp2_with (at_builtin;refine wpList_append_own _ rfl _ _ 22 rfl w.heap.size 9 i0 (.string ByteArray.empty) 1 16 Tryz.underlying22 hi hz0 hz1 hz2 rfl (by decide) _ _ _ rfl (World.ownsRow.alloc O9.out _) ⟨w9.heap.size,0,none⟩ 1 1 [.string IV] rfl rfl ?cc1 ?cc2 ?cc3 ?cc4 ?cc5 ?_)
 case cc1=>(intro j u hj;rw [Addr.add_lit];(rcases j with _ | j)<;>simp at hj<;>subst hj<;>simp (maxDischargeDepth:=12) [go_sem])
 case cc2=>(intro u hu;simp at hu;subst hu;rfl)
 case cc3=>unfold maxLen;simp;try omega
 case cc4=>simp;try omega
 case cc5=>first | omega | (simp;omega)
 intro v10 w10 h2 h3 _
 have X10:Hid (w10.heap[w.heap.size]? =_):=(h3.block _ (Nat.lt_succ_of_lt (lt_heap X9.out) |> fun q=>by simpa using q) (own_neX O9.out X9.out (by decide)).symm).trans ((Below.heap_alloc _ _ _ (lt_heap X9.out)).trans X9.out)
 have S10:Hid (w10.heap[SB]? =_):=(h3.block _ (Nat.lt_succ_of_lt (lt_heap S9.out) |> fun q=>by simpa using q) (own_neX O9.out S9.out (by decide)).symm).trans ((Below.heap_alloc _ _ _ (lt_heap S9.out)).trans S9.out)
 have B10:Below w.heap.size w w10:=Below.grown (B9.alloc z9 _) h3 (by simp;omega) (fun q hq=>(World.ownsRow.lt O9.out q hq).1)
 have O10:Hid (OwnN w.heap.size v10 [hd,IV] w10):=h2
 obtain ⟨p10,c10,rfl⟩:∃ p c,v10=.slice p 2 c:=by obtain ⟨p,c,h, -⟩:=O10.out.cap;exact ⟨p,c,h⟩
 clear h2 h3 X9 S9 B9 O9 z9 x0 x1 x2 x3 x4 x5 x6 x7 x8 x9 s0 s1 s2 s3 s4 s5 s6 s7 s8
 obtain ⟨x0,x1,x2,x3,x4,x5,x6,x7,x8,x9⟩:=bx10 X10.out
 obtain ⟨s0,s1,s2,s3,s4,s5,s6,s7,s8⟩:=bx9 S10.out
 go_wp2_with fail
 refine (ET.out _ B10).mono ?_
 rintro e w11 ⟨v11,rfl,hO,hb⟩
 have X11:Hid (w11.heap[w.heap.size]? =_):=(hb.block _ (lt_heap X10.out)).trans X10.out
 have S11:Hid (w11.heap[SB]? =_):=(hb.block _ (lt_heap S10.out)).trans S10.out
 have B11:Below w.heap.size w w11:=B10.trans (hb.mono B10.size)
 have O11:Hid (OwnN w.heap.size (.slice p10 2 c10) ([hd,IV]) w11):=O10.out.bel hb
 have P11:Hid (OwnN w10.heap.size v11 LT w11):=hO
 obtain ⟨q11,d11,rfl⟩:∃ p c,v11=.slice p LT.length c:=by obtain ⟨p,c,h, -⟩:=hO.cap;exact ⟨p,c,h⟩
 have z11:=B11.size
 clear hb hO X10 S10 B10 O10 x0 x1 x2 x3 x4 x5 x6 x7 x8 x9 s0 s1 s2 s3 s4 s5 s6 s7 s8
 go_wp2_with (at_builtin;refine wpList_append_srcA rfl _ _ 22 rfl w.heap.size 9 i0 (.string ByteArray.empty) 1 16 Tryz.underlying22 hi hz0 hz1 hz2 rfl (by decide) (.slice p10 2 c10) 2 (([hd,IV]).map Value.string) rfl O11.out (.slice q11 LT.length d11) LT.length (LT.map Value.string) rfl (src_names P11.out) ?ce1 ?ce2 ?ce3 ?ce4 ?_)
 case ce1=>(intro u hu;obtain ⟨s, -,rfl⟩:=List.mem_map.1 hu;rfl)
 case ce2=>unfold maxLen;first | omega | (simp;omega)
 case ce3=>first | omega | (simp;omega)
 case ce4=>first | omega | (simp;omega)
 intro v12 w12 h2 h3 _
 have X12:Hid (w12.heap[w.heap.size]? =_):=(h3.block _ (lt_heap X11.out) (own_neX O11.out X11.out (by decide)).symm).trans X11.out
 have S12:Hid (w12.heap[SB]? =_):=(h3.block _ (lt_heap S11.out) (own_neX O11.out S11.out (by decide)).symm).trans S11.out
 have B12:Below w.heap.size w w12:=Below.grown B11 h3 (by omega) (fun q hq=>(World.ownsRow.lt O11.out q hq).1)
 have O12:Hid (OwnN w.heap.size v12 ([hd,IV]++LT) w12):=row_cast h2 (by simp;try omega) (by simp)
 obtain ⟨n12,en12⟩:∃ n,Hid (([hd,IV]++LT).length=n):=⟨_,rfl⟩
 obtain ⟨p12,c12,rfl⟩:∃ p c,v12=.slice p n12 c:=by obtain ⟨p,c,h, -⟩:=O12.out.cap;rw [en12.out] at h;exact ⟨p,c,h⟩
 clear h2 h3 X11 S11 B11 O11 P11 z11
 obtain ⟨x0,x1,x2,x3,x4,x5,x6,x7,x8,x9⟩:=bx10 X12.out
 obtain ⟨s0,s1,s2,s3,s4,s5,s6,s7,s8⟩:=bx9 S12.out
 go_wp2_with fail
 refine (ER.out _ B12).mono ?_
 rintro e w13 ⟨v13,rfl,hO,hb⟩
 have X13:Hid (w13.heap[w.heap.size]? =_):=(hb.block _ (lt_heap X12.out)).trans X12.out
 have S13:Hid (w13.heap[SB]? =_):=(hb.block _ (lt_heap S12.out)).trans S12.out
 have B13:Below w.heap.size w w13:=B12.trans (hb.mono B12.size)
 have O13:Hid (OwnN w.heap.size (.slice p12 n12 c12) ([hd,IV]++LT) w13):=O12.out.bel hb
 have P13:Hid (OwnN w12.heap.size v13 LR w13):=hO
 obtain ⟨q13,d13,rfl⟩:∃ p c,v13=.slice p LR.length c:=by obtain ⟨p,c,h, -⟩:=hO.cap;exact ⟨p,c,h⟩
 have z13:=B13.size
 clear hb hO X12 S12 B12 O12 x0 x1 x2 x3 x4 x5 x6 x7 x8 x9 s0 s1 s2 s3 s4 s5 s6 s7 s8
 go_wp2_with (at_builtin;refine wpList_append_srcA rfl _ _ 22 rfl w.heap.size 9 i0 (.string ByteArray.empty) 1 16 Tryz.underlying22 hi hz0 hz1 hz2 rfl (by decide) (.slice p12 n12 c12) ([hd,IV]++LT).length (([hd,IV]++LT).map Value.string) rfl O13.out (.slice q13 LR.length d13) LR.length (LR.map Value.string) rfl (src_names P13.out) ?ce1 ?ce2 ?ce3 ?ce4 ?_)
 case ce1=>(intro u hu;obtain ⟨s, -,rfl⟩:=List.mem_map.1 hu;rfl)
 case ce2=>unfold maxLen;first | omega | (simp;omega)
 case ce3=>first | omega | (simp;omega)
 case ce4=>first | omega | (simp;omega)
 intro v14 w14 h2 h3 _
 have X14:Hid (w14.heap[w.heap.size]? =_):=(h3.block _ (lt_heap X13.out) (own_neX O13.out X13.out (by decide)).symm).trans X13.out
 have S14:Hid (w14.heap[SB]? =_):=(h3.block _ (lt_heap S13.out) (own_neX O13.out S13.out (by decide)).symm).trans S13.out
 have B14:Below w.heap.size w w14:=Below.grown B13 h3 (by omega) (fun q hq=>(World.ownsRow.lt O13.out q hq).1)
 have O14:Hid (OwnN w.heap.size v14 ([hd,IV]++LT++LR) w14):=row_cast h2 (by simp;try omega) (by simp)
 obtain ⟨n14,en14⟩:∃ n,Hid (([hd,IV]++LT++LR).length=n):=⟨_,rfl⟩
 obtain ⟨p14,c14,rfl⟩:∃ p c,v14=.slice p n14 c:=by obtain ⟨p,c,h, -⟩:=O14.out.cap;rw [en14.out] at h;exact ⟨p,c,h⟩
 clear h2 h3 X13 S13 B13 O13 P13 z13
 obtain ⟨x0,x1,x2,x3,x4,x5,x6,x7,x8,x9⟩:=bx10 X14.out
 obtain ⟨s0,s1,s2,s3,s4,s5,s6,s7,s8⟩:=bx9 S14.out
 go_wp2_with fail
 refine (EF.out _ B14).mono ?_
 rintro e w15 ⟨v15,rfl,hO,hb⟩
 have X15:Hid (w15.heap[w.heap.size]? =_):=(hb.block _ (lt_heap X14.out)).trans X14.out
 have S15:Hid (w15.heap[SB]? =_):=(hb.block _ (lt_heap S14.out)).trans S14.out
 have B15:Below w.heap.size w w15:=B14.trans (hb.mono B14.size)
 have O15:Hid (OwnN w.heap.size (.slice p14 n14 c14) ([hd,IV]++LT++LR) w15):=O14.out.bel hb
 have P15:Hid (OwnN w14.heap.size v15 LF w15):=hO
 obtain ⟨q15,d15,rfl⟩:∃ p c,v15=.slice p LF.length c:=by obtain ⟨p,c,h, -⟩:=hO.cap;exact ⟨p,c,h⟩
 have z15:=B15.size
 clear hb hO X14 S14 B14 O14 x0 x1 x2 x3 x4 x5 x6 x7 x8 x9 s0 s1 s2 s3 s4 s5 s6 s7 s8
 go_wp2_with (at_builtin;refine wpList_append_srcA rfl _ _ 22 rfl w.heap.size 9 i0 (.string ByteArray.empty) 1 16 Tryz.underlying22 hi hz0 hz1 hz2 rfl (by decide) (.slice p14 n14 c14) ([hd,IV]++LT++LR).length (([hd,IV]++LT++LR).map Value.string) rfl O15.out (.slice q15 LF.length d15) LF.length (LF.map Value.string) rfl (src_names P15.out) ?ce1 ?ce2 ?ce3 ?ce4 ?_)
 case ce1=>(intro u hu;obtain ⟨s, -,rfl⟩:=List.mem_map.1 hu;rfl)
 case ce2=>unfold maxLen;first | omega | (simp;omega)
 case ce3=>first | omega | (simp;omega)
 case ce4=>first | omega | (simp;omega)
 intro v16 w16 h2 h3 _
 have X16:Hid (w16.heap[w.heap.size]? =_):=(h3.block _ (lt_heap X15.out) (own_neX O15.out X15.out (by decide)).symm).trans X15.out
 have S16:Hid (w16.heap[SB]? =_):=(h3.block _ (lt_heap S15.out) (own_neX O15.out S15.out (by decide)).symm).trans S15.out
 have B16:Below w.heap.size w w16:=Below.grown B15 h3 (by omega) (fun q hq=>(World.ownsRow.lt O15.out q hq).1)
 have O16:Hid (OwnN w.heap.size v16 ([hd,IV]++LT++LR++LF) w16):=row_cast h2 (by simp;try omega) (by simp)
 obtain ⟨n16,en16⟩:∃ n,Hid (([hd,IV]++LT++LR++LF).length=n):=⟨_,rfl⟩
 obtain ⟨p16,c16,rfl⟩:∃ p c,v16=.slice p n16 c:=by obtain ⟨p,c,h, -⟩:=O16.out.cap;rw [en16.out] at h;exact ⟨p,c,h⟩
 clear h2 h3 X15 S15 B15 O15 P15 z15
 have NV:NmsAt w16 (.slice p16 n16 c16) ([hd,IV]++LT++LR++LF):=O16.out.nms (by simp;omega)
 go_wp2_with fail
 refine (BK.out _ _ NV).mono ?_
 rintro e wz ⟨rfl,hb⟩
 go_wp2
 go_ret
 exact ⟨rfl,B16.trans (hb.mono B16.size)⟩
theorem ftx_N (k op lo hh:Int) (nm:ByteArray) (oo:Bool) (pv pt ps pr:Option Addr) (nv nt ns nr cv ct cs cr:Nat) (hd:ByteArray) (qt qr qs:Int) (qm:Bool) (LT LR LF:List ByteArray) (RS:ByteArray) (w:World) (h1:¬ k=1) (h2:¬ k=2) (SC:Hid (∀ W:World,Calls Tryz.prog 35 #[.int .i64 k] W fun e w'=>e=.returned (.agg #[.string hd,.bool false,.bool false,.bool false,.bool false,.int .i64 qt,.int .i64 qr,.int .i64 qs,.bool qm])∧Below W.heap.size W w')) (ET:Hid (∀ W:World,Below w.heap.size w W→Calls Tryz.prog 39 #[.slice pt nt ct,.func (.func 40) #[] #[]] W fun e w'=>∃ v,e=.returned v∧OwnN W.heap.size v LT w'∧Below W.heap.size W w')) (ER:Hid (∀ W:World,Below w.heap.size w W→Calls Tryz.prog 41 #[.slice pr nr cr,.func (.func 42) #[] #[]] W fun e w'=>∃ v,e=.returned v∧OwnN W.heap.size v LR w'∧Below W.heap.size W w')) (EF:Hid (∀ W:World,Below w.heap.size w W→Calls Tryz.prog 43 #[.slice ps ns cs,.func (.func 20) #[] #[]] W fun e w'=>∃ v,e=.returned v∧OwnN W.heap.size v LF w'∧Below W.heap.size W w')) (hLT:LT.length≤1000) (hLR:LR.length≤1000) (hLF:LF.length≤1000) (BK:Hid (∀ (W:World) (V:Value),NmsAt W V ([hd]++LT++LR++LF)→Calls Tryz.prog 37 #[V] W fun e w'=>e=.returned (.string RS)∧Below W.heap.size W w')) (hhd:hd.toList≠[]):
  Calls Tryz.prog 20 #[.agg #[.int .i64 k,.string nm,.int .i64 op,.slice pv nv cv,.slice pt nt ct,.int .i64 lo,.int .i64 hh,.bool oo,.slice ps ns cs,.slice pr nr cr]] w fun e w'=>e=.returned (.string RS)∧Below w.heap.size w w':=by
 obtain ⟨i0,hi,hz0,hz1,hz2⟩:=info_parts inStA
 have k1:(k==1)=false:=by simpa using h1
 have k2:(k==2)=false:=by simpa using h2
 have hd1:(!hd.toList.isEmpty)=true:=by
  cases h:hd.toList with
  | nil=>exact absurd h hhd
  | cons a l=>rfl
 clear hhd
 go_enter Tryz.func20,Tryz.ntmps20
 go_upto_region 7 with fail
 refine wp_world ?_
 intro W0 hW0
 have X0:Hid (W0.heap[w.heap.size]? =some (.cells #[.int .i64 k,.string nm,.int .i64 op,.slice pv nv cv,.slice pt nt ct,.int .i64 lo,.int .i64 hh,.bool oo,.slice ps ns cs,.slice pr nr cr] 29 (0,0))):=by rw [hW0];exact new_box w _
 have B0:Below w.heap.size w W0:=by rw [hW0];exact (Below.refl _ _).alloc (Nat.le_refl _) _
 have z0:w.heap.size<W0.heap.size:=by rw [hW0];simp
 clear hW0
 obtain ⟨c0, -, -,c3, -, -, -, -, -, -⟩:=bx10 X0.out
 go_cut [4,5] (fun v4 v5 wx=>∃ SB,v4=.pointer (some ⟨SB,0,none⟩)∧v5=.slice pv nv cv∧Hid (wx.heap[SB]? =some (.cells #[.string hd,.bool false,.bool false,.bool false,.bool false,.int .i64 qt,.int .i64 qr,.int .i64 qs,.bool qm] 82 (0,0)))∧Hid (wx.heap[w.heap.size]? =some (.cells #[.int .i64 k,.string nm,.int .i64 op,.slice pv nv cv,.slice pt nt ct,.int .i64 lo,.int .i64 hh,.bool oo,.slice ps ns cs,.slice pr nr cr] 29 (0,0)))∧Hid (Below w.heap.size w wx))
 case first=>
  go_region_law (first
   | (go_simp;go_at_call 35;refine (SC.out _).mono ?_;rintro e w1 ⟨rfl,hb1⟩;have hx1:Below W0.drew.heap.size W0.drew w1:=hb1;have hs1:W0.heap.size≤w1.heap.size:=hx1.size;have d3:w1.cell? ⟨w.heap.size,3,none⟩=some (.slice pv nv cv):=(hx1.cell (p:=⟨w.heap.size,3,none⟩) z0).trans c3;have zz1:w.heap.size<w1.heap.size:=Nat.lt_of_lt_of_le z0 hs1)
   | (go_simp;go_at_call 35;refine (SC.out _).mono ?_;rintro e w1 ⟨rfl,hb1⟩;have hx1:Below (W0.alloc (.cells #[.string ⟨#[]⟩,.bool false,.bool false,.bool false,.bool false,.int .i64 0,.int .i64 0,.int .i64 0,.bool false] 82)).drew.heap.size (W0.alloc (.cells #[.string ⟨#[]⟩,.bool false,.bool false,.bool false,.bool false,.int .i64 0,.int .i64 0,.int .i64 0,.bool false] 82)).drew w1:=hb1;have hs1:W0.heap.size+1≤w1.heap.size:=(by have q:=hx1.size;simp at q;exact q);have d3:w1.cell? ⟨w.heap.size,3,none⟩=some (.slice pv nv cv):=((hx1.cell (p:=⟨w.heap.size,3,none⟩) (by simp;omega)).trans ((bcl (n:=W0.heap.size) ((Below.refl W0.heap.size W0).alloc (Nat.le_refl _) _) c3 z0)));have hS1:w1.heap[W0.heap.size]? =some (.cells #[.string ⟨#[]⟩,.bool false,.bool false,.bool false,.bool false,.int .i64 0,.int .i64 0,.int .i64 0,.bool false] 82 (0,0)):=(hx1.block W0.heap.size (by simp)).trans (new_box W0 _);obtain ⟨s0,s1,s2,s3,s4,s5,s6,s7,s8⟩:=bx9 hS1;obtain ⟨r0,r1,r2,r3,r4,r5,r6,r7,r8⟩:=bz9 hS1))
  all_goals (
   go_wp2_with fail
   go_meet
   first
   | (have _g:=zz1;exact ⟨w1.heap.size,rfl,rfl,new_box w1 _,(Below.heap_alloc _ _ _ zz1).trans ((hx1.block _ z0).trans X0.out),(B0.trans ((Below.drew (Below.refl W0.heap.size W0)).trans hx1 |>.mono (Nat.le_of_lt z0))).alloc (Nat.le_of_lt zz1) _⟩)
   | (have _g:=hS1;exact ⟨W0.heap.size,rfl,rfl,put9 hS1,(frp9 (P:=fun k=>k=W0.heap.size) (Fr.refl _ w1) (Or.inl rfl) _ _ _ _ _ _ _ _ _).heap ((hx1.block _ (by simp;omega)).trans ((Below.heap_alloc _ _ _ z0).trans X0.out)) (fun e=>by omega),(B0.trans ((((Below.refl W0.heap.size W0).alloc (Nat.le_refl _) _).drew.trans (hx1.mono (by simp))).mono (Nat.le_of_lt z0))).trans ((frp9 (P:=fun k=>k=W0.heap.size) (Fr.refl _ w1) (Or.inl rfl) _ _ _ _ _ _ _ _ _).below (by omega) (fun k e=>by omega))⟩))
 case rest=>
 obtain ⟨SB,rfl,rfl,S7,X7,BQ⟩:=hcut
 have B7:Below w.heap.size w wc:=BQ.out
 clear c0 c3 X0 B0 z0 SC BQ
 have O7:Hid (OwnN w.heap.size (.slice none 0 0) [] wc):=OwnN.nil _ _
 obtain ⟨x0,x1,x2,x3,x4,x5,x6,x7,x8,x9⟩:=bx10 X7.out
 obtain ⟨s0,s1,s2,s3,s4,s5,s6,s7,s8⟩:=bx9 S7.out
 have z7:=B7.size
 go_wp2_with (at_builtin;refine wpList_append_own _ rfl _ _ 22 rfl w.heap.size 9 i0 (.string ByteArray.empty) 1 16 Tryz.underlying22 hi hz0 hz1 hz2 rfl (by decide) _ _ _ rfl (World.ownsRow.alloc O7.out _) ⟨wc.heap.size,0,none⟩ 1 1 [.string hd] rfl rfl ?cc1 ?cc2 ?cc3 ?cc4 ?cc5 ?_)
 case cc1=>(intro j u hj;rw [Addr.add_lit];(rcases j with _ | j)<;>simp at hj<;>subst hj<;>simp (maxDischargeDepth:=12) [go_sem])
 case cc2=>(intro u hu;simp at hu;subst hu;rfl)
 case cc3=>unfold maxLen;simp;try omega
 case cc4=>simp;try omega
 case cc5=>first | omega | (simp;omega)
 intro v8 w8 h2 h3 _
 have X8:Hid (w8.heap[w.heap.size]? =_):=(h3.block _ (Nat.lt_succ_of_lt (lt_heap X7.out) |> fun q=>by simpa using q) (own_neX O7.out X7.out (by decide)).symm).trans ((Below.heap_alloc _ _ _ (lt_heap X7.out)).trans X7.out)
 have S8:Hid (w8.heap[SB]? =_):=(h3.block _ (Nat.lt_succ_of_lt (lt_heap S7.out) |> fun q=>by simpa using q) (own_neX O7.out S7.out (by decide)).symm).trans ((Below.heap_alloc _ _ _ (lt_heap S7.out)).trans S7.out)
 have B8:Below w.heap.size w w8:=Below.grown (B7.alloc z7 _) h3 (by simp;omega) (fun q hq=>(World.ownsRow.lt O7.out q hq).1)
 have O8:Hid (OwnN w.heap.size v8 [hd] w8):=h2
 obtain ⟨p8,c8,rfl⟩:∃ p c,v8=.slice p 1 c:=by obtain ⟨p,c,h, -⟩:=O8.out.cap;exact ⟨p,c,h⟩
 clear h2 h3 X7 S7 B7 O7 z7 x0 x1 x2 x3 x4 x5 x6 x7 x8 x9 s0 s1 s2 s3 s4 s5 s6 s7 s8
 obtain ⟨x0,x1,x2,x3,x4,x5,x6,x7,x8,x9⟩:=bx10 X8.out
 obtain ⟨s0,s1,s2,s3,s4,s5,s6,s7,s8⟩:=bx9 S8.out
 go_wp2_with fail
 refine (ET.out _ B8).mono ?_
 rintro e w9 ⟨v9,rfl,hO,hb⟩
 have X9:Hid (w9.heap[w.heap.size]? =_):=(hb.block _ (lt_heap X8.out)).trans X8.out
 have S9:Hid (w9.heap[SB]? =_):=(hb.block _ (lt_heap S8.out)).trans S8.out
 have B9:Below w.heap.size w w9:=B8.trans (hb.mono B8.size)
 have O9:Hid (OwnN w.heap.size (.slice p8 1 c8) ([hd]) w9):=O8.out.bel hb
 have P9:Hid (OwnN w8.heap.size v9 LT w9):=hO
 obtain ⟨q9,d9,rfl⟩:∃ p c,v9=.slice p LT.length c:=by obtain ⟨p,c,h, -⟩:=hO.cap;exact ⟨p,c,h⟩
 have z9:=B9.size
 clear hb hO X8 S8 B8 O8 x0 x1 x2 x3 x4 x5 x6 x7 x8 x9 s0 s1 s2 s3 s4 s5 s6 s7 s8
 go_wp2_with (at_builtin;refine wpList_append_srcA rfl _ _ 22 rfl w.heap.size 9 i0 (.string ByteArray.empty) 1 16 Tryz.underlying22 hi hz0 hz1 hz2 rfl (by decide) (.slice p8 1 c8) 1 (([hd]).map Value.string) rfl O9.out (.slice q9 LT.length d9) LT.length (LT.map Value.string) rfl (src_names P9.out) ?ce1 ?ce2 ?ce3 ?ce4 ?_)
 case ce1=>(intro u hu;obtain ⟨s, -,rfl⟩:=List.mem_map.1 hu;rfl)
 case ce2=>unfold maxLen;first | omega | (simp;omega)
 case ce3=>first | omega | (simp;omega)
 case ce4=>first | omega | (simp;omega)
 intro v10 w10 h2 h3 _
 have X10:Hid (w10.heap[w.heap.size]? =_):=(h3.block _ (lt_heap X9.out) (own_neX O9.out X9.out (by decide)).symm).trans X9.out
 have S10:Hid (w10.heap[SB]? =_):=(h3.block _ (lt_heap S9.out) (own_neX O9.out S9.out (by decide)).symm).trans S9.out
 have B10:Below w.heap.size w w10:=Below.grown B9 h3 (by omega) (fun q hq=>(World.ownsRow.lt O9.out q hq).1)
 have O10:Hid (OwnN w.heap.size v10 ([hd]++LT) w10):=row_cast h2 (by simp;try omega) (by simp)
 obtain ⟨n10,en10⟩:∃ n,Hid (([hd]++LT).length=n):=⟨_,rfl⟩
 obtain ⟨p10,c10,rfl⟩:∃ p c,v10=.slice p n10 c:=by obtain ⟨p,c,h, -⟩:=O10.out.cap;rw [en10.out] at h;exact ⟨p,c,h⟩
 clear h2 h3 X9 S9 B9 O9 P9 z9
 obtain ⟨x0,x1,x2,x3,x4,x5,x6,x7,x8,x9⟩:=bx10 X10.out
 obtain ⟨s0,s1,s2,s3,s4,s5,s6,s7,s8⟩:=bx9 S10.out
 go_wp2_with fail
 refine (ER.out _ B10).mono ?_
 rintro e w11 ⟨v11,rfl,hO,hb⟩
 have X11:Hid (w11.heap[w.heap.size]? =_):=(hb.block _ (lt_heap X10.out)).trans X10.out
 have S11:Hid (w11.heap[SB]? =_):=(hb.block _ (lt_heap S10.out)).trans S10.out
 have B11:Below w.heap.size w w11:=B10.trans (hb.mono B10.size)
 have O11:Hid (OwnN w.heap.size (.slice p10 n10 c10) ([hd]++LT) w11):=O10.out.bel hb
 have P11:Hid (OwnN w10.heap.size v11 LR w11):=hO
 obtain ⟨q11,d11,rfl⟩:∃ p c,v11=.slice p LR.length c:=by obtain ⟨p,c,h, -⟩:=hO.cap;exact ⟨p,c,h⟩
 have z11:=B11.size
 clear hb hO X10 S10 B10 O10 x0 x1 x2 x3 x4 x5 x6 x7 x8 x9 s0 s1 s2 s3 s4 s5 s6 s7 s8
 go_wp2_with (at_builtin;refine wpList_append_srcA rfl _ _ 22 rfl w.heap.size 9 i0 (.string ByteArray.empty) 1 16 Tryz.underlying22 hi hz0 hz1 hz2 rfl (by decide) (.slice p10 n10 c10) ([hd]++LT).length (([hd]++LT).map Value.string) rfl O11.out (.slice q11 LR.length d11) LR.length (LR.map Value.string) rfl (src_names P11.out) ?ce1 ?ce2 ?ce3 ?ce4 ?_)
 case ce1=>(intro u hu;obtain ⟨s, -,rfl⟩:=List.mem_map.1 hu;rfl)
 case ce2=>unfold maxLen;first | omega | (simp;omega)
 case ce3=>first | omega | (simp;omega)
 case ce4=>first | omega | (simp;omega)
 intro v12 w12 h2 h3 _
 have X12:Hid (w12.heap[w.heap.size]? =_):=(h3.block _ (lt_heap X11.out) (own_neX O11.out X11.out (by decide)).symm).trans X11.out
 have S12:Hid (w12.heap[SB]? =_):=(h3.block _ (lt_heap S11.out) (own_neX O11.out S11.out (by decide)).symm).trans S11.out
 have B12:Below w.heap.size w w12:=Below.grown B11 h3 (by omega) (fun q hq=>(World.ownsRow.lt O11.out q hq).1)
 have O12:Hid (OwnN w.heap.size v12 ([hd]++LT++LR) w12):=row_cast h2 (by simp;try omega) (by simp)
 obtain ⟨n12,en12⟩:∃ n,Hid (([hd]++LT++LR).length=n):=⟨_,rfl⟩
 obtain ⟨p12,c12,rfl⟩:∃ p c,v12=.slice p n12 c:=by obtain ⟨p,c,h, -⟩:=O12.out.cap;rw [en12.out] at h;exact ⟨p,c,h⟩
 clear h2 h3 X11 S11 B11 O11 P11 z11
 obtain ⟨x0,x1,x2,x3,x4,x5,x6,x7,x8,x9⟩:=bx10 X12.out
 obtain ⟨s0,s1,s2,s3,s4,s5,s6,s7,s8⟩:=bx9 S12.out
 go_wp2_with fail
 refine (EF.out _ B12).mono ?_
 rintro e w13 ⟨v13,rfl,hO,hb⟩
 have X13:Hid (w13.heap[w.heap.size]? =_):=(hb.block _ (lt_heap X12.out)).trans X12.out
 have S13:Hid (w13.heap[SB]? =_):=(hb.block _ (lt_heap S12.out)).trans S12.out
 have B13:Below w.heap.size w w13:=B12.trans (hb.mono B12.size)
 have O13:Hid (OwnN w.heap.size (.slice p12 n12 c12) ([hd]++LT++LR) w13):=O12.out.bel hb
 have P13:Hid (OwnN w12.heap.size v13 LF w13):=hO
 obtain ⟨q13,d13,rfl⟩:∃ p c,v13=.slice p LF.length c:=by obtain ⟨p,c,h, -⟩:=hO.cap;exact ⟨p,c,h⟩
 have z13:=B13.size
 clear hb hO X12 S12 B12 O12 x0 x1 x2 x3 x4 x5 x6 x7 x8 x9 s0 s1 s2 s3 s4 s5 s6 s7 s8
 go_wp2_with (at_builtin;refine wpList_append_srcA rfl _ _ 22 rfl w.heap.size 9 i0 (.string ByteArray.empty) 1 16 Tryz.underlying22 hi hz0 hz1 hz2 rfl (by decide) (.slice p12 n12 c12) ([hd]++LT++LR).length (([hd]++LT++LR).map Value.string) rfl O13.out (.slice q13 LF.length d13) LF.length (LF.map Value.string) rfl (src_names P13.out) ?ce1 ?ce2 ?ce3 ?ce4 ?_)
 case ce1=>(intro u hu;obtain ⟨s, -,rfl⟩:=List.mem_map.1 hu;rfl)
 case ce2=>unfold maxLen;first | omega | (simp;omega)
 case ce3=>first | omega | (simp;omega)
 case ce4=>first | omega | (simp;omega)
 intro v14 w14 h2 h3 _
 have X14:Hid (w14.heap[w.heap.size]? =_):=(h3.block _ (lt_heap X13.out) (own_neX O13.out X13.out (by decide)).symm).trans X13.out
 have S14:Hid (w14.heap[SB]? =_):=(h3.block _ (lt_heap S13.out) (own_neX O13.out S13.out (by decide)).symm).trans S13.out
 have B14:Below w.heap.size w w14:=Below.grown B13 h3 (by omega) (fun q hq=>(World.ownsRow.lt O13.out q hq).1)
 have O14:Hid (OwnN w.heap.size v14 ([hd]++LT++LR++LF) w14):=row_cast h2 (by simp;try omega) (by simp)
 obtain ⟨n14,en14⟩:∃ n,Hid (([hd]++LT++LR++LF).length=n):=⟨_,rfl⟩
 obtain ⟨p14,c14,rfl⟩:∃ p c,v14=.slice p n14 c:=by obtain ⟨p,c,h, -⟩:=O14.out.cap;rw [en14.out] at h;exact ⟨p,c,h⟩
 clear h2 h3 X13 S13 B13 O13 P13 z13
 have NV:NmsAt w14 (.slice p14 n14 c14) ([hd]++LT++LR++LF):=O14.out.nms (by simp;omega)
 go_wp2_with fail
 refine (BK.out _ _ NV).mono ?_
 rintro e wz ⟨rfl,hb⟩
 go_wp2
 go_ret
 exact ⟨rfl,B14.trans (hb.mono B14.size)⟩
theorem ftx_P (k op lo hh:Int) (nm:ByteArray) (oo:Bool) (pv pt ps pr:Option Addr) (nv nt ns nr cv ct cs cr:Nat) (hd:ByteArray) (qt qr qs:Int) (qm:Bool) (LT LR LF:List ByteArray) (RS:ByteArray) (w:World) (h1:¬ k=1) (h2:¬ k=2) (SC:Hid (∀ W:World,Calls Tryz.prog 35 #[.int .i64 k] W fun e w'=>e=.returned (.agg #[.string hd,.bool true,.bool false,.bool false,.bool false,.int .i64 qt,.int .i64 qr,.int .i64 qs,.bool qm])∧Below W.heap.size W w')) (ET:Hid (∀ W:World,Below w.heap.size w W→Calls Tryz.prog 39 #[.slice pt nt ct,.func (.func 40) #[] #[]] W fun e w'=>∃ v,e=.returned v∧OwnN W.heap.size v LT w'∧Below W.heap.size W w')) (ER:Hid (∀ W:World,Below w.heap.size w W→Calls Tryz.prog 41 #[.slice pr nr cr,.func (.func 42) #[] #[]] W fun e w'=>∃ v,e=.returned v∧OwnN W.heap.size v LR w'∧Below W.heap.size W w')) (EF:Hid (∀ W:World,Below w.heap.size w W→Calls Tryz.prog 43 #[.slice ps ns cs,.func (.func 20) #[] #[]] W fun e w'=>∃ v,e=.returned v∧OwnN W.heap.size v LF w'∧Below W.heap.size W w')) (hLT:LT.length≤1000) (hLR:LR.length≤1000) (hLF:LF.length≤1000) (BK:Hid (∀ (W:World) (V:Value),NmsAt W V ([nm]++LT++LR++LF)→Calls Tryz.prog 37 #[V] W fun e w'=>e=.returned (.string RS)∧Below W.heap.size W w')) (hhd:hd=⟨#[]⟩):
  Calls Tryz.prog 20 #[.agg #[.int .i64 k,.string nm,.int .i64 op,.slice pv nv cv,.slice pt nt ct,.int .i64 lo,.int .i64 hh,.bool oo,.slice ps ns cs,.slice pr nr cr]] w fun e w'=>e=.returned (.string RS)∧Below w.heap.size w w':=by
 obtain ⟨i0,hi,hz0,hz1,hz2⟩:=info_parts inStA
 have k1:(k==1)=false:=by simpa using h1
 have k2:(k==2)=false:=by simpa using h2
 subst hhd
 go_enter Tryz.func20,Tryz.ntmps20
 go_upto_region 7 with fail
 refine wp_world ?_
 intro W0 hW0
 have X0:Hid (W0.heap[w.heap.size]? =some (.cells #[.int .i64 k,.string nm,.int .i64 op,.slice pv nv cv,.slice pt nt ct,.int .i64 lo,.int .i64 hh,.bool oo,.slice ps ns cs,.slice pr nr cr] 29 (0,0))):=by rw [hW0];exact new_box w _
 have B0:Below w.heap.size w W0:=by rw [hW0];exact (Below.refl _ _).alloc (Nat.le_refl _) _
 have z0:w.heap.size<W0.heap.size:=by rw [hW0];simp
 clear hW0
 obtain ⟨c0, -, -,c3, -, -, -, -, -, -⟩:=bx10 X0.out
 go_cut [4,5] (fun v4 v5 wx=>∃ SB,v4=.pointer (some ⟨SB,0,none⟩)∧v5=.slice pv nv cv∧Hid (wx.heap[SB]? =some (.cells #[.string ⟨#[]⟩,.bool true,.bool false,.bool false,.bool false,.int .i64 qt,.int .i64 qr,.int .i64 qs,.bool qm] 82 (0,0)))∧Hid (wx.heap[w.heap.size]? =some (.cells #[.int .i64 k,.string nm,.int .i64 op,.slice pv nv cv,.slice pt nt ct,.int .i64 lo,.int .i64 hh,.bool oo,.slice ps ns cs,.slice pr nr cr] 29 (0,0)))∧Hid (Below w.heap.size w wx))
 case first=>
  go_region_law (first
   | (go_simp;go_at_call 35;refine (SC.out _).mono ?_;rintro e w1 ⟨rfl,hb1⟩;have hx1:Below W0.drew.heap.size W0.drew w1:=hb1;have hs1:W0.heap.size≤w1.heap.size:=hx1.size;have d3:w1.cell? ⟨w.heap.size,3,none⟩=some (.slice pv nv cv):=(hx1.cell (p:=⟨w.heap.size,3,none⟩) z0).trans c3;have zz1:w.heap.size<w1.heap.size:=Nat.lt_of_lt_of_le z0 hs1)
   | (go_simp;go_at_call 35;refine (SC.out _).mono ?_;rintro e w1 ⟨rfl,hb1⟩;have hx1:Below (W0.alloc (.cells #[.string ⟨#[]⟩,.bool false,.bool false,.bool false,.bool false,.int .i64 0,.int .i64 0,.int .i64 0,.bool false] 82)).drew.heap.size (W0.alloc (.cells #[.string ⟨#[]⟩,.bool false,.bool false,.bool false,.bool false,.int .i64 0,.int .i64 0,.int .i64 0,.bool false] 82)).drew w1:=hb1;have hs1:W0.heap.size+1≤w1.heap.size:=(by have q:=hx1.size;simp at q;exact q);have d3:w1.cell? ⟨w.heap.size,3,none⟩=some (.slice pv nv cv):=((hx1.cell (p:=⟨w.heap.size,3,none⟩) (by simp;omega)).trans ((bcl (n:=W0.heap.size) ((Below.refl W0.heap.size W0).alloc (Nat.le_refl _) _) c3 z0)));have hS1:w1.heap[W0.heap.size]? =some (.cells #[.string ⟨#[]⟩,.bool false,.bool false,.bool false,.bool false,.int .i64 0,.int .i64 0,.int .i64 0,.bool false] 82 (0,0)):=(hx1.block W0.heap.size (by simp)).trans (new_box W0 _);obtain ⟨s0,s1,s2,s3,s4,s5,s6,s7,s8⟩:=bx9 hS1;obtain ⟨r0,r1,r2,r3,r4,r5,r6,r7,r8⟩:=bz9 hS1))
  all_goals (
   go_wp2_with fail
   go_meet
   first
   | (have _g:=zz1;exact ⟨w1.heap.size,rfl,rfl,new_box w1 _,(Below.heap_alloc _ _ _ zz1).trans ((hx1.block _ z0).trans X0.out),(B0.trans ((Below.drew (Below.refl W0.heap.size W0)).trans hx1 |>.mono (Nat.le_of_lt z0))).alloc (Nat.le_of_lt zz1) _⟩)
   | (have _g:=hS1;exact ⟨W0.heap.size,rfl,rfl,put9 hS1,(frp9 (P:=fun k=>k=W0.heap.size) (Fr.refl _ w1) (Or.inl rfl) _ _ _ _ _ _ _ _ _).heap ((hx1.block _ (by simp;omega)).trans ((Below.heap_alloc _ _ _ z0).trans X0.out)) (fun e=>by omega),(B0.trans ((((Below.refl W0.heap.size W0).alloc (Nat.le_refl _) _).drew.trans (hx1.mono (by simp))).mono (Nat.le_of_lt z0))).trans ((frp9 (P:=fun k=>k=W0.heap.size) (Fr.refl _ w1) (Or.inl rfl) _ _ _ _ _ _ _ _ _).below (by omega) (fun k e=>by omega))⟩))
 case rest=>
 obtain ⟨SB,rfl,rfl,S7,X7,BQ⟩:=hcut
 have B7:Below w.heap.size w wc:=BQ.out
 clear c0 c3 X0 B0 z0 SC BQ
 have O7:Hid (OwnN w.heap.size (.slice none 0 0) [] wc):=OwnN.nil _ _
 obtain ⟨x0,x1,x2,x3,x4,x5,x6,x7,x8,x9⟩:=bx10 X7.out
 obtain ⟨s0,s1,s2,s3,s4,s5,s6,s7,s8⟩:=bx9 S7.out
 have z7:=B7.size
 go_wp2_with (at_builtin;refine wpList_append_own _ rfl _ _ 22 rfl w.heap.size 9 i0 (.string ByteArray.empty) 1 16 Tryz.underlying22 hi hz0 hz1 hz2 rfl (by decide) _ _ _ rfl (World.ownsRow.alloc O7.out _) ⟨wc.heap.size,0,none⟩ 1 1 [.string nm] rfl rfl ?cc1 ?cc2 ?cc3 ?cc4 ?cc5 ?_)
 case cc1=>(intro j u hj;rw [Addr.add_lit];(rcases j with _ | j)<;>simp at hj<;>subst hj<;>simp (maxDischargeDepth:=12) [go_sem])
 case cc2=>(intro u hu;simp at hu;subst hu;rfl)
 case cc3=>unfold maxLen;simp;try omega
 case cc4=>simp;try omega
 case cc5=>first | omega | (simp;omega)
 intro v8 w8 h2 h3 _
 have X8:Hid (w8.heap[w.heap.size]? =_):=(h3.block _ (Nat.lt_succ_of_lt (lt_heap X7.out) |> fun q=>by simpa using q) (own_neX O7.out X7.out (by decide)).symm).trans ((Below.heap_alloc _ _ _ (lt_heap X7.out)).trans X7.out)
 have S8:Hid (w8.heap[SB]? =_):=(h3.block _ (Nat.lt_succ_of_lt (lt_heap S7.out) |> fun q=>by simpa using q) (own_neX O7.out S7.out (by decide)).symm).trans ((Below.heap_alloc _ _ _ (lt_heap S7.out)).trans S7.out)
 have B8:Below w.heap.size w w8:=Below.grown (B7.alloc z7 _) h3 (by simp;omega) (fun q hq=>(World.ownsRow.lt O7.out q hq).1)
 have O8:Hid (OwnN w.heap.size v8 [nm] w8):=h2
 obtain ⟨p8,c8,rfl⟩:∃ p c,v8=.slice p 1 c:=by obtain ⟨p,c,h, -⟩:=O8.out.cap;exact ⟨p,c,h⟩
 clear h2 h3 X7 S7 B7 O7 z7 x0 x1 x2 x3 x4 x5 x6 x7 x8 x9 s0 s1 s2 s3 s4 s5 s6 s7 s8
 obtain ⟨x0,x1,x2,x3,x4,x5,x6,x7,x8,x9⟩:=bx10 X8.out
 obtain ⟨s0,s1,s2,s3,s4,s5,s6,s7,s8⟩:=bx9 S8.out
 go_wp2_with fail
 refine (ET.out _ B8).mono ?_
 rintro e w9 ⟨v9,rfl,hO,hb⟩
 have X9:Hid (w9.heap[w.heap.size]? =_):=(hb.block _ (lt_heap X8.out)).trans X8.out
 have S9:Hid (w9.heap[SB]? =_):=(hb.block _ (lt_heap S8.out)).trans S8.out
 have B9:Below w.heap.size w w9:=B8.trans (hb.mono B8.size)
 have O9:Hid (OwnN w.heap.size (.slice p8 1 c8) ([nm]) w9):=O8.out.bel hb
 have P9:Hid (OwnN w8.heap.size v9 LT w9):=hO
 obtain ⟨q9,d9,rfl⟩:∃ p c,v9=.slice p LT.length c:=by obtain ⟨p,c,h, -⟩:=hO.cap;exact ⟨p,c,h⟩
 have z9:=B9.size
 clear hb hO X8 S8 B8 O8 x0 x1 x2 x3 x4 x5 x6 x7 x8 x9 s0 s1 s2 s3 s4 s5 s6 s7 s8
 go_wp2_with (at_builtin;refine wpList_append_srcA rfl _ _ 22 rfl w.heap.size 9 i0 (.string ByteArray.empty) 1 16 Tryz.underlying22 hi hz0 hz1 hz2 rfl (by decide) (.slice p8 1 c8) 1 (([nm]).map Value.string) rfl O9.out (.slice q9 LT.length d9) LT.length (LT.map Value.string) rfl (src_names P9.out) ?ce1 ?ce2 ?ce3 ?ce4 ?_)
 case ce1=>(intro u hu;obtain ⟨s, -,rfl⟩:=List.mem_map.1 hu;rfl)
 case ce2=>unfold maxLen;first | omega | (simp;omega)
 case ce3=>first | omega | (simp;omega)
 case ce4=>first | omega | (simp;omega)
 intro v10 w10 h2 h3 _
 have X10:Hid (w10.heap[w.heap.size]? =_):=(h3.block _ (lt_heap X9.out) (own_neX O9.out X9.out (by decide)).symm).trans X9.out
 have S10:Hid (w10.heap[SB]? =_):=(h3.block _ (lt_heap S9.out) (own_neX O9.out S9.out (by decide)).symm).trans S9.out
 have B10:Below w.heap.size w w10:=Below.grown B9 h3 (by omega) (fun q hq=>(World.ownsRow.lt O9.out q hq).1)
 have O10:Hid (OwnN w.heap.size v10 ([nm]++LT) w10):=row_cast h2 (by simp;try omega) (by simp)
 obtain ⟨n10,en10⟩:∃ n,Hid (([nm]++LT).length=n):=⟨_,rfl⟩
 obtain ⟨p10,c10,rfl⟩:∃ p c,v10=.slice p n10 c:=by obtain ⟨p,c,h, -⟩:=O10.out.cap;rw [en10.out] at h;exact ⟨p,c,h⟩
 clear h2 h3 X9 S9 B9 O9 P9 z9
 obtain ⟨x0,x1,x2,x3,x4,x5,x6,x7,x8,x9⟩:=bx10 X10.out
 obtain ⟨s0,s1,s2,s3,s4,s5,s6,s7,s8⟩:=bx9 S10.out
 go_wp2_with fail
 refine (ER.out _ B10).mono ?_
 rintro e w11 ⟨v11,rfl,hO,hb⟩
 have X11:Hid (w11.heap[w.heap.size]? =_):=(hb.block _ (lt_heap X10.out)).trans X10.out
 have S11:Hid (w11.heap[SB]? =_):=(hb.block _ (lt_heap S10.out)).trans S10.out
 have B11:Below w.heap.size w w11:=B10.trans (hb.mono B10.size)
 have O11:Hid (OwnN w.heap.size (.slice p10 n10 c10) ([nm]++LT) w11):=O10.out.bel hb
 have P11:Hid (OwnN w10.heap.size v11 LR w11):=hO
 obtain ⟨q11,d11,rfl⟩:∃ p c,v11=.slice p LR.length c:=by obtain ⟨p,c,h, -⟩:=hO.cap;exact ⟨p,c,h⟩
 have z11:=B11.size
 clear hb hO X10 S10 B10 O10 x0 x1 x2 x3 x4 x5 x6 x7 x8 x9 s0 s1 s2 s3 s4 s5 s6 s7 s8
 go_wp2_with (at_builtin;refine wpList_append_srcA rfl _ _ 22 rfl w.heap.size 9 i0 (.string ByteArray.empty) 1 16 Tryz.underlying22 hi hz0 hz1 hz2 rfl (by decide) (.slice p10 n10 c10) ([nm]++LT).length (([nm]++LT).map Value.string) rfl O11.out (.slice q11 LR.length d11) LR.length (LR.map Value.string) rfl (src_names P11.out) ?ce1 ?ce2 ?ce3 ?ce4 ?_)
 case ce1=>(intro u hu;obtain ⟨s, -,rfl⟩:=List.mem_map.1 hu;rfl)
 case ce2=>unfold maxLen;first | omega | (simp;omega)
 case ce3=>first | omega | (simp;omega)
 case ce4=>first | omega | (simp;omega)
 intro v12 w12 h2 h3 _
 have X12:Hid (w12.heap[w.heap.size]? =_):=(h3.block _ (lt_heap X11.out) (own_neX O11.out X11.out (by decide)).symm).trans X11.out
 have S12:Hid (w12.heap[SB]? =_):=(h3.block _ (lt_heap S11.out) (own_neX O11.out S11.out (by decide)).symm).trans S11.out
 have B12:Below w.heap.size w w12:=Below.grown B11 h3 (by omega) (fun q hq=>(World.ownsRow.lt O11.out q hq).1)
 have O12:Hid (OwnN w.heap.size v12 ([nm]++LT++LR) w12):=row_cast h2 (by simp;try omega) (by simp)
 obtain ⟨n12,en12⟩:∃ n,Hid (([nm]++LT++LR).length=n):=⟨_,rfl⟩
 obtain ⟨p12,c12,rfl⟩:∃ p c,v12=.slice p n12 c:=by obtain ⟨p,c,h, -⟩:=O12.out.cap;rw [en12.out] at h;exact ⟨p,c,h⟩
 clear h2 h3 X11 S11 B11 O11 P11 z11
 obtain ⟨x0,x1,x2,x3,x4,x5,x6,x7,x8,x9⟩:=bx10 X12.out
 obtain ⟨s0,s1,s2,s3,s4,s5,s6,s7,s8⟩:=bx9 S12.out
 go_wp2_with fail
 refine (EF.out _ B12).mono ?_
 rintro e w13 ⟨v13,rfl,hO,hb⟩
 have X13:Hid (w13.heap[w.heap.size]? =_):=(hb.block _ (lt_heap X12.out)).trans X12.out
 have S13:Hid (w13.heap[SB]? =_):=(hb.block _ (lt_heap S12.out)).trans S12.out
 have B13:Below w.heap.size w w13:=B12.trans (hb.mono B12.size)
 have O13:Hid (OwnN w.heap.size (.slice p12 n12 c12) ([nm]++LT++LR) w13):=O12.out.bel hb
 have P13:Hid (OwnN w12.heap.size v13 LF w13):=hO
 obtain ⟨q13,d13,rfl⟩:∃ p c,v13=.slice p LF.length c:=by obtain ⟨p,c,h, -⟩:=hO.cap;exact ⟨p,c,h⟩
 have z13:=B13.size
 clear hb hO X12 S12 B12 O12 x0 x1 x2 x3 x4 x5 x6 x7 x8 x9 s0 s1 s2 s3 s4 s5 s6 s7 s8
 go_wp2_with (at_builtin;refine wpList_append_srcA rfl _ _ 22 rfl w.heap.size 9 i0 (.string ByteArray.empty) 1 16 Tryz.underlying22 hi hz0 hz1 hz2 rfl (by decide) (.slice p12 n12 c12) ([nm]++LT++LR).length (([nm]++LT++LR).map Value.string) rfl O13.out (.slice q13 LF.length d13) LF.length (LF.map Value.string) rfl (src_names P13.out) ?ce1 ?ce2 ?ce3 ?ce4 ?_)
 case ce1=>(intro u hu;obtain ⟨s, -,rfl⟩:=List.mem_map.1 hu;rfl)
 case ce2=>unfold maxLen;first | omega | (simp;omega)
 case ce3=>first | omega | (simp;omega)
 case ce4=>first | omega | (simp;omega)
 intro v14 w14 h2 h3 _
 have X14:Hid (w14.heap[w.heap.size]? =_):=(h3.block _ (lt_heap X13.out) (own_neX O13.out X13.out (by decide)).symm).trans X13.out
 have S14:Hid (w14.heap[SB]? =_):=(h3.block _ (lt_heap S13.out) (own_neX O13.out S13.out (by decide)).symm).trans S13.out
 have B14:Below w.heap.size w w14:=Below.grown B13 h3 (by omega) (fun q hq=>(World.ownsRow.lt O13.out q hq).1)
 have O14:Hid (OwnN w.heap.size v14 ([nm]++LT++LR++LF) w14):=row_cast h2 (by simp;try omega) (by simp)
 obtain ⟨n14,en14⟩:∃ n,Hid (([nm]++LT++LR++LF).length=n):=⟨_,rfl⟩
 obtain ⟨p14,c14,rfl⟩:∃ p c,v14=.slice p n14 c:=by obtain ⟨p,c,h, -⟩:=O14.out.cap;rw [en14.out] at h;exact ⟨p,c,h⟩
 clear h2 h3 X13 S13 B13 O13 P13 z13
 have NV:NmsAt w14 (.slice p14 n14 c14) ([nm]++LT++LR++LF):=O14.out.nms (by simp;omega)
 go_wp2_with fail
 refine (BK.out _ _ NV).mono ?_
 rintro e wz ⟨rfl,hb⟩
 go_wp2
 go_ret
 exact ⟨rfl,B14.trans (hb.mono B14.size)⟩
theorem ftx_E (k op lo hh:Int) (nm:ByteArray) (oo:Bool) (pv pt ps pr:Option Addr) (nv nt ns nr cv ct cs cr:Nat) (hd:ByteArray) (qt qr qs:Int) (qm:Bool) (VL:ByteArray) (LT LR LF:List ByteArray) (RS:ByteArray) (w:World) (h1:¬ k=1) (h2:¬ k=2) (SC:Hid (∀ W:World,Calls Tryz.prog 35 #[.int .i64 k] W fun e w'=>e=.returned (.agg #[.string hd,.bool false,.bool false,.bool true,.bool false,.int .i64 qt,.int .i64 qr,.int .i64 qs,.bool qm])∧Below W.heap.size W w')) (VC:Hid (∀ W:World,Below w.heap.size w W→Calls Tryz.prog 37 #[.slice pv nv cv] W fun e w'=>e=.returned (.string VL)∧Below W.heap.size W w')) (ET:Hid (∀ W:World,Below w.heap.size w W→Calls Tryz.prog 39 #[.slice pt nt ct,.func (.func 40) #[] #[]] W fun e w'=>∃ v,e=.returned v∧OwnN W.heap.size v LT w'∧Below W.heap.size W w')) (ER:Hid (∀ W:World,Below w.heap.size w W→Calls Tryz.prog 41 #[.slice pr nr cr,.func (.func 42) #[] #[]] W fun e w'=>∃ v,e=.returned v∧OwnN W.heap.size v LR w'∧Below W.heap.size W w')) (EF:Hid (∀ W:World,Below w.heap.size w W→Calls Tryz.prog 43 #[.slice ps ns cs,.func (.func 20) #[] #[]] W fun e w'=>∃ v,e=.returned v∧OwnN W.heap.size v LF w'∧Below W.heap.size W w')) (hLT:LT.length≤1000) (hLR:LR.length≤1000) (hLF:LF.length≤1000) (BK:Hid (∀ (W:World) (V:Value),NmsAt W V ([hd,VL]++LT++LR++LF)→Calls Tryz.prog 37 #[V] W fun e w'=>e=.returned (.string RS)∧Below W.heap.size W w')) (hhd:hd.toList≠[]):
  Calls Tryz.prog 20 #[.agg #[.int .i64 k,.string nm,.int .i64 op,.slice pv nv cv,.slice pt nt ct,.int .i64 lo,.int .i64 hh,.bool oo,.slice ps ns cs,.slice pr nr cr]] w fun e w'=>e=.returned (.string RS)∧Below w.heap.size w w':=by
 obtain ⟨i0,hi,hz0,hz1,hz2⟩:=info_parts inStA
 have k1:(k==1)=false:=by simpa using h1
 have k2:(k==2)=false:=by simpa using h2
 have hd1:(!hd.toList.isEmpty)=true:=by
  cases h:hd.toList with
  | nil=>exact absurd h hhd
  | cons a l=>rfl
 clear hhd
 go_enter Tryz.func20,Tryz.ntmps20
 go_upto_region 7 with fail
 refine wp_world ?_
 intro W0 hW0
 have X0:Hid (W0.heap[w.heap.size]? =some (.cells #[.int .i64 k,.string nm,.int .i64 op,.slice pv nv cv,.slice pt nt ct,.int .i64 lo,.int .i64 hh,.bool oo,.slice ps ns cs,.slice pr nr cr] 29 (0,0))):=by rw [hW0];exact new_box w _
 have B0:Below w.heap.size w W0:=by rw [hW0];exact (Below.refl _ _).alloc (Nat.le_refl _) _
 have z0:w.heap.size<W0.heap.size:=by rw [hW0];simp
 clear hW0
 obtain ⟨c0, -, -,c3, -, -, -, -, -, -⟩:=bx10 X0.out
 go_cut [4,5] (fun v4 v5 wx=>∃ SB,v4=.pointer (some ⟨SB,0,none⟩)∧v5=.slice pv nv cv∧Hid (wx.heap[SB]? =some (.cells #[.string hd,.bool false,.bool false,.bool true,.bool false,.int .i64 qt,.int .i64 qr,.int .i64 qs,.bool qm] 82 (0,0)))∧Hid (wx.heap[w.heap.size]? =some (.cells #[.int .i64 k,.string nm,.int .i64 op,.slice pv nv cv,.slice pt nt ct,.int .i64 lo,.int .i64 hh,.bool oo,.slice ps ns cs,.slice pr nr cr] 29 (0,0)))∧Hid (Below w.heap.size w wx))
 case first=>
  go_region_law (first
   | (go_simp;go_at_call 35;refine (SC.out _).mono ?_;rintro e w1 ⟨rfl,hb1⟩;have hx1:Below W0.drew.heap.size W0.drew w1:=hb1;have hs1:W0.heap.size≤w1.heap.size:=hx1.size;have d3:w1.cell? ⟨w.heap.size,3,none⟩=some (.slice pv nv cv):=(hx1.cell (p:=⟨w.heap.size,3,none⟩) z0).trans c3;have zz1:w.heap.size<w1.heap.size:=Nat.lt_of_lt_of_le z0 hs1)
   | (go_simp;go_at_call 35;refine (SC.out _).mono ?_;rintro e w1 ⟨rfl,hb1⟩;have hx1:Below (W0.alloc (.cells #[.string ⟨#[]⟩,.bool false,.bool false,.bool false,.bool false,.int .i64 0,.int .i64 0,.int .i64 0,.bool false] 82)).drew.heap.size (W0.alloc (.cells #[.string ⟨#[]⟩,.bool false,.bool false,.bool false,.bool false,.int .i64 0,.int .i64 0,.int .i64 0,.bool false] 82)).drew w1:=hb1;have hs1:W0.heap.size+1≤w1.heap.size:=(by have q:=hx1.size;simp at q;exact q);have d3:w1.cell? ⟨w.heap.size,3,none⟩=some (.slice pv nv cv):=((hx1.cell (p:=⟨w.heap.size,3,none⟩) (by simp;omega)).trans ((bcl (n:=W0.heap.size) ((Below.refl W0.heap.size W0).alloc (Nat.le_refl _) _) c3 z0)));have hS1:w1.heap[W0.heap.size]? =some (.cells #[.string ⟨#[]⟩,.bool false,.bool false,.bool false,.bool false,.int .i64 0,.int .i64 0,.int .i64 0,.bool false] 82 (0,0)):=(hx1.block W0.heap.size (by simp)).trans (new_box W0 _);obtain ⟨s0,s1,s2,s3,s4,s5,s6,s7,s8⟩:=bx9 hS1;obtain ⟨r0,r1,r2,r3,r4,r5,r6,r7,r8⟩:=bz9 hS1))
  all_goals (
   go_wp2_with fail
   go_meet
   first
   | (have _g:=zz1;exact ⟨w1.heap.size,rfl,rfl,new_box w1 _,(Below.heap_alloc _ _ _ zz1).trans ((hx1.block _ z0).trans X0.out),(B0.trans ((Below.drew (Below.refl W0.heap.size W0)).trans hx1 |>.mono (Nat.le_of_lt z0))).alloc (Nat.le_of_lt zz1) _⟩)
   | (have _g:=hS1;exact ⟨W0.heap.size,rfl,rfl,put9 hS1,(frp9 (P:=fun k=>k=W0.heap.size) (Fr.refl _ w1) (Or.inl rfl) _ _ _ _ _ _ _ _ _).heap ((hx1.block _ (by simp;omega)).trans ((Below.heap_alloc _ _ _ z0).trans X0.out)) (fun e=>by omega),(B0.trans ((((Below.refl W0.heap.size W0).alloc (Nat.le_refl _) _).drew.trans (hx1.mono (by simp))).mono (Nat.le_of_lt z0))).trans ((frp9 (P:=fun k=>k=W0.heap.size) (Fr.refl _ w1) (Or.inl rfl) _ _ _ _ _ _ _ _ _).below (by omega) (fun k e=>by omega))⟩))
 case rest=>
 obtain ⟨SB,rfl,rfl,S7,X7,BQ⟩:=hcut
 have B7:Below w.heap.size w wc:=BQ.out
 clear c0 c3 X0 B0 z0 SC BQ
 have O7:Hid (OwnN w.heap.size (.slice none 0 0) [] wc):=OwnN.nil _ _
 obtain ⟨x0,x1,x2,x3,x4,x5,x6,x7,x8,x9⟩:=bx10 X7.out
 obtain ⟨s0,s1,s2,s3,s4,s5,s6,s7,s8⟩:=bx9 S7.out
 have z7:=B7.size
 go_wp2_with (at_builtin;refine wpList_append_own _ rfl _ _ 22 rfl w.heap.size 9 i0 (.string ByteArray.empty) 1 16 Tryz.underlying22 hi hz0 hz1 hz2 rfl (by decide) _ _ _ rfl (World.ownsRow.alloc O7.out _) ⟨wc.heap.size,0,none⟩ 1 1 [.string hd] rfl rfl ?cc1 ?cc2 ?cc3 ?cc4 ?cc5 ?_)
 case cc1=>(intro j u hj;rw [Addr.add_lit];(rcases j with _ | j)<;>simp at hj<;>subst hj<;>simp (maxDischargeDepth:=12) [go_sem])
 case cc2=>(intro u hu;simp at hu;subst hu;rfl)
 case cc3=>unfold maxLen;simp;try omega
 case cc4=>simp;try omega
 case cc5=>first | omega | (simp;omega)
 intro v8 w8 h2 h3 _
 have X8:Hid (w8.heap[w.heap.size]? =_):=(h3.block _ (Nat.lt_succ_of_lt (lt_heap X7.out) |> fun q=>by simpa using q) (own_neX O7.out X7.out (by decide)).symm).trans ((Below.heap_alloc _ _ _ (lt_heap X7.out)).trans X7.out)
 have S8:Hid (w8.heap[SB]? =_):=(h3.block _ (Nat.lt_succ_of_lt (lt_heap S7.out) |> fun q=>by simpa using q) (own_neX O7.out S7.out (by decide)).symm).trans ((Below.heap_alloc _ _ _ (lt_heap S7.out)).trans S7.out)
 have B8:Below w.heap.size w w8:=Below.grown (B7.alloc z7 _) h3 (by simp;omega) (fun q hq=>(World.ownsRow.lt O7.out q hq).1)
 have O8:Hid (OwnN w.heap.size v8 [hd] w8):=h2
 obtain ⟨p8,c8,rfl⟩:∃ p c,v8=.slice p 1 c:=by obtain ⟨p,c,h, -⟩:=O8.out.cap;exact ⟨p,c,h⟩
 clear h2 h3 X7 S7 B7 O7 z7 x0 x1 x2 x3 x4 x5 x6 x7 x8 x9 s0 s1 s2 s3 s4 s5 s6 s7 s8
 obtain ⟨x0,x1,x2,x3,x4,x5,x6,x7,x8,x9⟩:=bx10 X8.out
 obtain ⟨s0,s1,s2,s3,s4,s5,s6,s7,s8⟩:=bx9 S8.out
 go_wp2_with fail
 refine (VC.out _ B8).mono ?_
 rintro e w9 ⟨rfl,hb⟩
 have X9:Hid (w9.heap[w.heap.size]? =_):=(hb.block _ (lt_heap X8.out)).trans X8.out
 have S9:Hid (w9.heap[SB]? =_):=(hb.block _ (lt_heap S8.out)).trans S8.out
 have B9:Below w.heap.size w w9:=B8.trans (hb.mono B8.size)
 have O9:Hid (OwnN w.heap.size (.slice p8 1 c8) [hd] w9):=O8.out.bel hb
 clear hb X8 S8 B8 O8 x0 x1 x2 x3 x4 x5 x6 x7 x8 x9 s0 s1 s2 s3 s4 s5 s6 s7 s8
 obtain ⟨x0,x1,x2,x3,x4,x5,x6,x7,x8,x9⟩:=bx10 X9.out
 obtain ⟨s0,s1,s2,s3,s4,s5,s6,s7,s8⟩:=bx9 S9.out
 have z9:=B9.size
 go_wp2_with (at_builtin;refine wpList_append_own _ rfl _ _ 22 rfl w.heap.size 9 i0 (.string ByteArray.empty) 1 16 Tryz.underlying22 hi hz0 hz1 hz2 rfl (by decide) _ _ _ rfl (World.ownsRow.alloc O9.out _) ⟨w9.heap.size,0,none⟩ 1 1 [.string VL] rfl rfl ?cc1 ?cc2 ?cc3 ?cc4 ?cc5 ?_)
 case cc1=>(intro j u hj;rw [Addr.add_lit];(rcases j with _ | j)<;>simp at hj<;>subst hj<;>simp (maxDischargeDepth:=12) [go_sem])
 case cc2=>(intro u hu;simp at hu;subst hu;rfl)
 case cc3=>unfold maxLen;simp;try omega
 case cc4=>simp;try omega
 case cc5=>first | omega | (simp;omega)
 intro v10 w10 h2 h3 _
 have X10:Hid (w10.heap[w.heap.size]? =_):=(h3.block _ (Nat.lt_succ_of_lt (lt_heap X9.out) |> fun q=>by simpa using q) (own_neX O9.out X9.out (by decide)).symm).trans ((Below.heap_alloc _ _ _ (lt_heap X9.out)).trans X9.out)
 have S10:Hid (w10.heap[SB]? =_):=(h3.block _ (Nat.lt_succ_of_lt (lt_heap S9.out) |> fun q=>by simpa using q) (own_neX O9.out S9.out (by decide)).symm).trans ((Below.heap_alloc _ _ _ (lt_heap S9.out)).trans S9.out)
 have B10:Below w.heap.size w w10:=Below.grown (B9.alloc z9 _) h3 (by simp;omega) (fun q hq=>(World.ownsRow.lt O9.out q hq).1)
 have O10:Hid (OwnN w.heap.size v10 [hd,VL] w10):=h2
 obtain ⟨p10,c10,rfl⟩:∃ p c,v10=.slice p 2 c:=by obtain ⟨p,c,h, -⟩:=O10.out.cap;exact ⟨p,c,h⟩
 clear h2 h3 X9 S9 B9 O9 z9 x0 x1 x2 x3 x4 x5 x6 x7 x8 x9 s0 s1 s2 s3 s4 s5 s6 s7 s8
 obtain ⟨x0,x1,x2,x3,x4,x5,x6,x7,x8,x9⟩:=bx10 X10.out
 obtain ⟨s0,s1,s2,s3,s4,s5,s6,s7,s8⟩:=bx9 S10.out
 go_wp2_with fail
 refine (ET.out _ B10).mono ?_
 rintro e w11 ⟨v11,rfl,hO,hb⟩
 have X11:Hid (w11.heap[w.heap.size]? =_):=(hb.block _ (lt_heap X10.out)).trans X10.out
 have S11:Hid (w11.heap[SB]? =_):=(hb.block _ (lt_heap S10.out)).trans S10.out
 have B11:Below w.heap.size w w11:=B10.trans (hb.mono B10.size)
 have O11:Hid (OwnN w.heap.size (.slice p10 2 c10) ([hd,VL]) w11):=O10.out.bel hb
 have P11:Hid (OwnN w10.heap.size v11 LT w11):=hO
 obtain ⟨q11,d11,rfl⟩:∃ p c,v11=.slice p LT.length c:=by obtain ⟨p,c,h, -⟩:=hO.cap;exact ⟨p,c,h⟩
 have z11:=B11.size
 clear hb hO X10 S10 B10 O10 x0 x1 x2 x3 x4 x5 x6 x7 x8 x9 s0 s1 s2 s3 s4 s5 s6 s7 s8
 go_wp2_with (at_builtin;refine wpList_append_srcA rfl _ _ 22 rfl w.heap.size 9 i0 (.string ByteArray.empty) 1 16 Tryz.underlying22 hi hz0 hz1 hz2 rfl (by decide) (.slice p10 2 c10) 2 (([hd,VL]).map Value.string) rfl O11.out (.slice q11 LT.length d11) LT.length (LT.map Value.string) rfl (src_names P11.out) ?ce1 ?ce2 ?ce3 ?ce4 ?_)
 case ce1=>(intro u hu;obtain ⟨s, -,rfl⟩:=List.mem_map.1 hu;rfl)
 case ce2=>unfold maxLen;first | omega | (simp;omega)
 case ce3=>first | omega | (simp;omega)
 case ce4=>first | omega | (simp;omega)
 intro v12 w12 h2 h3 _
 have X12:Hid (w12.heap[w.heap.size]? =_):=(h3.block _ (lt_heap X11.out) (own_neX O11.out X11.out (by decide)).symm).trans X11.out
 have S12:Hid (w12.heap[SB]? =_):=(h3.block _ (lt_heap S11.out) (own_neX O11.out S11.out (by decide)).symm).trans S11.out
 have B12:Below w.heap.size w w12:=Below.grown B11 h3 (by omega) (fun q hq=>(World.ownsRow.lt O11.out q hq).1)
 have O12:Hid (OwnN w.heap.size v12 ([hd,VL]++LT) w12):=row_cast h2 (by simp;try omega) (by simp)
 obtain ⟨n12,en12⟩:∃ n,Hid (([hd,VL]++LT).length=n):=⟨_,rfl⟩
 obtain ⟨p12,c12,rfl⟩:∃ p c,v12=.slice p n12 c:=by obtain ⟨p,c,h, -⟩:=O12.out.cap;rw [en12.out] at h;exact ⟨p,c,h⟩
 clear h2 h3 X11 S11 B11 O11 P11 z11
 obtain ⟨x0,x1,x2,x3,x4,x5,x6,x7,x8,x9⟩:=bx10 X12.out
 obtain ⟨s0,s1,s2,s3,s4,s5,s6,s7,s8⟩:=bx9 S12.out
 go_wp2_with fail
 refine (ER.out _ B12).mono ?_
 rintro e w13 ⟨v13,rfl,hO,hb⟩
 have X13:Hid (w13.heap[w.heap.size]? =_):=(hb.block _ (lt_heap X12.out)).trans X12.out
 have S13:Hid (w13.heap[SB]? =_):=(hb.block _ (lt_heap S12.out)).trans S12.out
 have B13:Below w.heap.size w w13:=B12.trans (hb.mono B12.size)
 have O13:Hid (OwnN w.heap.size (.slice p12 n12 c12) ([hd,VL]++LT) w13):=O12.out.bel hb
 have P13:Hid (OwnN w12.heap.size v13 LR w13):=hO
 obtain ⟨q13,d13,rfl⟩:∃ p c,v13=.slice p LR.length c:=by obtain ⟨p,c,h, -⟩:=hO.cap;exact ⟨p,c,h⟩
 have z13:=B13.size
 clear hb hO X12 S12 B12 O12 x0 x1 x2 x3 x4 x5 x6 x7 x8 x9 s0 s1 s2 s3 s4 s5 s6 s7 s8
 go_wp2_with (at_builtin;refine wpList_append_srcA rfl _ _ 22 rfl w.heap.size 9 i0 (.string ByteArray.empty) 1 16 Tryz.underlying22 hi hz0 hz1 hz2 rfl (by decide) (.slice p12 n12 c12) ([hd,VL]++LT).length (([hd,VL]++LT).map Value.string) rfl O13.out (.slice q13 LR.length d13) LR.length (LR.map Value.string) rfl (src_names P13.out) ?ce1 ?ce2 ?ce3 ?ce4 ?_)
 case ce1=>(intro u hu;obtain ⟨s, -,rfl⟩:=List.mem_map.1 hu;rfl)
 case ce2=>unfold maxLen;first | omega | (simp;omega)
 case ce3=>first | omega | (simp;omega)
 case ce4=>first | omega | (simp;omega)
 intro v14 w14 h2 h3 _
 have X14:Hid (w14.heap[w.heap.size]? =_):=(h3.block _ (lt_heap X13.out) (own_neX O13.out X13.out (by decide)).symm).trans X13.out
 have S14:Hid (w14.heap[SB]? =_):=(h3.block _ (lt_heap S13.out) (own_neX O13.out S13.out (by decide)).symm).trans S13.out
 have B14:Below w.heap.size w w14:=Below.grown B13 h3 (by omega) (fun q hq=>(World.ownsRow.lt O13.out q hq).1)
 have O14:Hid (OwnN w.heap.size v14 ([hd,VL]++LT++LR) w14):=row_cast h2 (by simp;try omega) (by simp)
 obtain ⟨n14,en14⟩:∃ n,Hid (([hd,VL]++LT++LR).length=n):=⟨_,rfl⟩
 obtain ⟨p14,c14,rfl⟩:∃ p c,v14=.slice p n14 c:=by obtain ⟨p,c,h, -⟩:=O14.out.cap;rw [en14.out] at h;exact ⟨p,c,h⟩
 clear h2 h3 X13 S13 B13 O13 P13 z13
 obtain ⟨x0,x1,x2,x3,x4,x5,x6,x7,x8,x9⟩:=bx10 X14.out
 obtain ⟨s0,s1,s2,s3,s4,s5,s6,s7,s8⟩:=bx9 S14.out
 go_wp2_with fail
 refine (EF.out _ B14).mono ?_
 rintro e w15 ⟨v15,rfl,hO,hb⟩
 have X15:Hid (w15.heap[w.heap.size]? =_):=(hb.block _ (lt_heap X14.out)).trans X14.out
 have S15:Hid (w15.heap[SB]? =_):=(hb.block _ (lt_heap S14.out)).trans S14.out
 have B15:Below w.heap.size w w15:=B14.trans (hb.mono B14.size)
 have O15:Hid (OwnN w.heap.size (.slice p14 n14 c14) ([hd,VL]++LT++LR) w15):=O14.out.bel hb
 have P15:Hid (OwnN w14.heap.size v15 LF w15):=hO
 obtain ⟨q15,d15,rfl⟩:∃ p c,v15=.slice p LF.length c:=by obtain ⟨p,c,h, -⟩:=hO.cap;exact ⟨p,c,h⟩
 have z15:=B15.size
 clear hb hO X14 S14 B14 O14 x0 x1 x2 x3 x4 x5 x6 x7 x8 x9 s0 s1 s2 s3 s4 s5 s6 s7 s8
 go_wp2_with (at_builtin;refine wpList_append_srcA rfl _ _ 22 rfl w.heap.size 9 i0 (.string ByteArray.empty) 1 16 Tryz.underlying22 hi hz0 hz1 hz2 rfl (by decide) (.slice p14 n14 c14) ([hd,VL]++LT++LR).length (([hd,VL]++LT++LR).map Value.string) rfl O15.out (.slice q15 LF.length d15) LF.length (LF.map Value.string) rfl (src_names P15.out) ?ce1 ?ce2 ?ce3 ?ce4 ?_)
 case ce1=>(intro u hu;obtain ⟨s, -,rfl⟩:=List.mem_map.1 hu;rfl)
 case ce2=>unfold maxLen;first | omega | (simp;omega)
 case ce3=>first | omega | (simp;omega)
 case ce4=>first | omega | (simp;omega)
 intro v16 w16 h2 h3 _
 have X16:Hid (w16.heap[w.heap.size]? =_):=(h3.block _ (lt_heap X15.out) (own_neX O15.out X15.out (by decide)).symm).trans X15.out
 have S16:Hid (w16.heap[SB]? =_):=(h3.block _ (lt_heap S15.out) (own_neX O15.out S15.out (by decide)).symm).trans S15.out
 have B16:Below w.heap.size w w16:=Below.grown B15 h3 (by omega) (fun q hq=>(World.ownsRow.lt O15.out q hq).1)
 have O16:Hid (OwnN w.heap.size v16 ([hd,VL]++LT++LR++LF) w16):=row_cast h2 (by simp;try omega) (by simp)
 obtain ⟨n16,en16⟩:∃ n,Hid (([hd,VL]++LT++LR++LF).length=n):=⟨_,rfl⟩
 obtain ⟨p16,c16,rfl⟩:∃ p c,v16=.slice p n16 c:=by obtain ⟨p,c,h, -⟩:=O16.out.cap;rw [en16.out] at h;exact ⟨p,c,h⟩
 clear h2 h3 X15 S15 B15 O15 P15 z15
 have NV:NmsAt w16 (.slice p16 n16 c16) ([hd,VL]++LT++LR++LF):=O16.out.nms (by simp;omega)
 go_wp2_with fail
 refine (BK.out _ _ NV).mono ?_
 rintro e wz ⟨rfl,hb⟩
 go_wp2
 go_ret
 exact ⟨rfl,B16.trans (hb.mono B16.size)⟩
theorem ftx_L (k op lo hh:Int) (nm:ByteArray) (oo:Bool) (pv pt ps pr:Option Addr) (nv nt ns nr cv ct cs cr:Nat) (hd:ByteArray) (qt qr qs:Int) (qm:Bool) (VL:ByteArray) (LT LR LF:List ByteArray) (RS:ByteArray) (w:World) (h1:¬ k=1) (h2:¬ k=2) (SC:Hid (∀ W:World,Calls Tryz.prog 35 #[.int .i64 k] W fun e w'=>e=.returned (.agg #[.string hd,.bool true,.bool false,.bool true,.bool false,.int .i64 qt,.int .i64 qr,.int .i64 qs,.bool qm])∧Below W.heap.size W w')) (VC:Hid (∀ W:World,Below w.heap.size w W→Calls Tryz.prog 37 #[.slice pv nv cv] W fun e w'=>e=.returned (.string VL)∧Below W.heap.size W w')) (ET:Hid (∀ W:World,Below w.heap.size w W→Calls Tryz.prog 39 #[.slice pt nt ct,.func (.func 40) #[] #[]] W fun e w'=>∃ v,e=.returned v∧OwnN W.heap.size v LT w'∧Below W.heap.size W w')) (ER:Hid (∀ W:World,Below w.heap.size w W→Calls Tryz.prog 41 #[.slice pr nr cr,.func (.func 42) #[] #[]] W fun e w'=>∃ v,e=.returned v∧OwnN W.heap.size v LR w'∧Below W.heap.size W w')) (EF:Hid (∀ W:World,Below w.heap.size w W→Calls Tryz.prog 43 #[.slice ps ns cs,.func (.func 20) #[] #[]] W fun e w'=>∃ v,e=.returned v∧OwnN W.heap.size v LF w'∧Below W.heap.size W w')) (hLT:LT.length≤1000) (hLR:LR.length≤1000) (hLF:LF.length≤1000) (BK:Hid (∀ (W:World) (V:Value),NmsAt W V ([hd,nm,VL]++LT++LR++LF)→Calls Tryz.prog 37 #[V] W fun e w'=>e=.returned (.string RS)∧Below W.heap.size W w')) (hhd:hd.toList≠[]):
  Calls Tryz.prog 20 #[.agg #[.int .i64 k,.string nm,.int .i64 op,.slice pv nv cv,.slice pt nt ct,.int .i64 lo,.int .i64 hh,.bool oo,.slice ps ns cs,.slice pr nr cr]] w fun e w'=>e=.returned (.string RS)∧Below w.heap.size w w':=by
 obtain ⟨i0,hi,hz0,hz1,hz2⟩:=info_parts inStA
 have k1:(k==1)=false:=by simpa using h1
 have k2:(k==2)=false:=by simpa using h2
 have hd1:(!hd.toList.isEmpty)=true:=by
  cases h:hd.toList with
  | nil=>exact absurd h hhd
  | cons a l=>rfl
 clear hhd
 go_enter Tryz.func20,Tryz.ntmps20
 go_upto_region 7 with fail
 refine wp_world ?_
 intro W0 hW0
 have X0:Hid (W0.heap[w.heap.size]? =some (.cells #[.int .i64 k,.string nm,.int .i64 op,.slice pv nv cv,.slice pt nt ct,.int .i64 lo,.int .i64 hh,.bool oo,.slice ps ns cs,.slice pr nr cr] 29 (0,0))):=by rw [hW0];exact new_box w _
 have B0:Below w.heap.size w W0:=by rw [hW0];exact (Below.refl _ _).alloc (Nat.le_refl _) _
 have z0:w.heap.size<W0.heap.size:=by rw [hW0];simp
 clear hW0
 obtain ⟨c0, -, -,c3, -, -, -, -, -, -⟩:=bx10 X0.out
 go_cut [4,5] (fun v4 v5 wx=>∃ SB,v4=.pointer (some ⟨SB,0,none⟩)∧v5=.slice pv nv cv∧Hid (wx.heap[SB]? =some (.cells #[.string hd,.bool true,.bool false,.bool true,.bool false,.int .i64 qt,.int .i64 qr,.int .i64 qs,.bool qm] 82 (0,0)))∧Hid (wx.heap[w.heap.size]? =some (.cells #[.int .i64 k,.string nm,.int .i64 op,.slice pv nv cv,.slice pt nt ct,.int .i64 lo,.int .i64 hh,.bool oo,.slice ps ns cs,.slice pr nr cr] 29 (0,0)))∧Hid (Below w.heap.size w wx))
 case first=>
  go_region_law (first
   | (go_simp;go_at_call 35;refine (SC.out _).mono ?_;rintro e w1 ⟨rfl,hb1⟩;have hx1:Below W0.drew.heap.size W0.drew w1:=hb1;have hs1:W0.heap.size≤w1.heap.size:=hx1.size;have d3:w1.cell? ⟨w.heap.size,3,none⟩=some (.slice pv nv cv):=(hx1.cell (p:=⟨w.heap.size,3,none⟩) z0).trans c3;have zz1:w.heap.size<w1.heap.size:=Nat.lt_of_lt_of_le z0 hs1)
   | (go_simp;go_at_call 35;refine (SC.out _).mono ?_;rintro e w1 ⟨rfl,hb1⟩;have hx1:Below (W0.alloc (.cells #[.string ⟨#[]⟩,.bool false,.bool false,.bool false,.bool false,.int .i64 0,.int .i64 0,.int .i64 0,.bool false] 82)).drew.heap.size (W0.alloc (.cells #[.string ⟨#[]⟩,.bool false,.bool false,.bool false,.bool false,.int .i64 0,.int .i64 0,.int .i64 0,.bool false] 82)).drew w1:=hb1;have hs1:W0.heap.size+1≤w1.heap.size:=(by have q:=hx1.size;simp at q;exact q);have d3:w1.cell? ⟨w.heap.size,3,none⟩=some (.slice pv nv cv):=((hx1.cell (p:=⟨w.heap.size,3,none⟩) (by simp;omega)).trans ((bcl (n:=W0.heap.size) ((Below.refl W0.heap.size W0).alloc (Nat.le_refl _) _) c3 z0)));have hS1:w1.heap[W0.heap.size]? =some (.cells #[.string ⟨#[]⟩,.bool false,.bool false,.bool false,.bool false,.int .i64 0,.int .i64 0,.int .i64 0,.bool false] 82 (0,0)):=(hx1.block W0.heap.size (by simp)).trans (new_box W0 _);obtain ⟨s0,s1,s2,s3,s4,s5,s6,s7,s8⟩:=bx9 hS1;obtain ⟨r0,r1,r2,r3,r4,r5,r6,r7,r8⟩:=bz9 hS1))
  all_goals (
   go_wp2_with fail
   go_meet
   first
   | (have _g:=zz1;exact ⟨w1.heap.size,rfl,rfl,new_box w1 _,(Below.heap_alloc _ _ _ zz1).trans ((hx1.block _ z0).trans X0.out),(B0.trans ((Below.drew (Below.refl W0.heap.size W0)).trans hx1 |>.mono (Nat.le_of_lt z0))).alloc (Nat.le_of_lt zz1) _⟩)
   | (have _g:=hS1;exact ⟨W0.heap.size,rfl,rfl,put9 hS1,(frp9 (P:=fun k=>k=W0.heap.size) (Fr.refl _ w1) (Or.inl rfl) _ _ _ _ _ _ _ _ _).heap ((hx1.block _ (by simp;omega)).trans ((Below.heap_alloc _ _ _ z0).trans X0.out)) (fun e=>by omega),(B0.trans ((((Below.refl W0.heap.size W0).alloc (Nat.le_refl _) _).drew.trans (hx1.mono (by simp))).mono (Nat.le_of_lt z0))).trans ((frp9 (P:=fun k=>k=W0.heap.size) (Fr.refl _ w1) (Or.inl rfl) _ _ _ _ _ _ _ _ _).below (by omega) (fun k e=>by omega))⟩))
 case rest=>
 obtain ⟨SB,rfl,rfl,S7,X7,BQ⟩:=hcut
 have B7:Below w.heap.size w wc:=BQ.out
 clear c0 c3 X0 B0 z0 SC BQ
 have O7:Hid (OwnN w.heap.size (.slice none 0 0) [] wc):=OwnN.nil _ _
 obtain ⟨x0,x1,x2,x3,x4,x5,x6,x7,x8,x9⟩:=bx10 X7.out
 obtain ⟨s0,s1,s2,s3,s4,s5,s6,s7,s8⟩:=bx9 S7.out
 have z7:=B7.size
 go_wp2_with (at_builtin;refine wpList_append_own _ rfl _ _ 22 rfl w.heap.size 9 i0 (.string ByteArray.empty) 1 16 Tryz.underlying22 hi hz0 hz1 hz2 rfl (by decide) _ _ _ rfl (World.ownsRow.alloc O7.out _) ⟨wc.heap.size,0,none⟩ 1 1 [.string hd] rfl rfl ?cc1 ?cc2 ?cc3 ?cc4 ?cc5 ?_)
 case cc1=>(intro j u hj;rw [Addr.add_lit];(rcases j with _ | j)<;>simp at hj<;>subst hj<;>simp (maxDischargeDepth:=12) [go_sem])
 case cc2=>(intro u hu;simp at hu;subst hu;rfl)
 case cc3=>unfold maxLen;simp;try omega
 case cc4=>simp;try omega
 case cc5=>first | omega | (simp;omega)
 intro v8 w8 h2 h3 _
 have X8:Hid (w8.heap[w.heap.size]? =_):=(h3.block _ (Nat.lt_succ_of_lt (lt_heap X7.out) |> fun q=>by simpa using q) (own_neX O7.out X7.out (by decide)).symm).trans ((Below.heap_alloc _ _ _ (lt_heap X7.out)).trans X7.out)
 have S8:Hid (w8.heap[SB]? =_):=(h3.block _ (Nat.lt_succ_of_lt (lt_heap S7.out) |> fun q=>by simpa using q) (own_neX O7.out S7.out (by decide)).symm).trans ((Below.heap_alloc _ _ _ (lt_heap S7.out)).trans S7.out)
 have B8:Below w.heap.size w w8:=Below.grown (B7.alloc z7 _) h3 (by simp;omega) (fun q hq=>(World.ownsRow.lt O7.out q hq).1)
 have O8:Hid (OwnN w.heap.size v8 [hd] w8):=h2
 obtain ⟨p8,c8,rfl⟩:∃ p c,v8=.slice p 1 c:=by obtain ⟨p,c,h, -⟩:=O8.out.cap;exact ⟨p,c,h⟩
 clear h2 h3 X7 S7 B7 O7 z7 x0 x1 x2 x3 x4 x5 x6 x7 x8 x9 s0 s1 s2 s3 s4 s5 s6 s7 s8
 obtain ⟨x0,x1,x2,x3,x4,x5,x6,x7,x8,x9⟩:=bx10 X8.out
 obtain ⟨s0,s1,s2,s3,s4,s5,s6,s7,s8⟩:=bx9 S8.out
 have z8:=B8.size
 go_wp2_with (at_builtin;refine wpList_append_own _ rfl _ _ 22 rfl w.heap.size 9 i0 (.string ByteArray.empty) 1 16 Tryz.underlying22 hi hz0 hz1 hz2 rfl (by decide) _ _ _ rfl (World.ownsRow.alloc O8.out _) ⟨w8.heap.size,0,none⟩ 1 1 [.string nm] rfl rfl ?cc1 ?cc2 ?cc3 ?cc4 ?cc5 ?_)
 case cc1=>(intro j u hj;rw [Addr.add_lit];(rcases j with _ | j)<;>simp at hj<;>subst hj<;>simp (maxDischargeDepth:=12) [go_sem])
 case cc2=>(intro u hu;simp at hu;subst hu;rfl)
 case cc3=>unfold maxLen;simp;try omega
 case cc4=>simp;try omega
 case cc5=>first | omega | (simp;omega)
 intro v9 w9 h2 h3 _
 have X9:Hid (w9.heap[w.heap.size]? =_):=(h3.block _ (Nat.lt_succ_of_lt (lt_heap X8.out) |> fun q=>by simpa using q) (own_neX O8.out X8.out (by decide)).symm).trans ((Below.heap_alloc _ _ _ (lt_heap X8.out)).trans X8.out)
 have S9:Hid (w9.heap[SB]? =_):=(h3.block _ (Nat.lt_succ_of_lt (lt_heap S8.out) |> fun q=>by simpa using q) (own_neX O8.out S8.out (by decide)).symm).trans ((Below.heap_alloc _ _ _ (lt_heap S8.out)).trans S8.out)
 have B9:Below w.heap.size w w9:=Below.grown (B8.alloc z8 _) h3 (by simp;omega) (fun q hq=>(World.ownsRow.lt O8.out q hq).1)
 have O9:Hid (OwnN w.heap.size v9 [hd,nm] w9):=h2
 obtain ⟨p9,c9,rfl⟩:∃ p c,v9=.slice p 2 c:=by obtain ⟨p,c,h, -⟩:=O9.out.cap;exact ⟨p,c,h⟩
 clear h2 h3 X8 S8 B8 O8 z8 x0 x1 x2 x3 x4 x5 x6 x7 x8 x9 s0 s1 s2 s3 s4 s5 s6 s7 s8
 obtain ⟨x0,x1,x2,x3,x4,x5,x6,x7,x8,x9⟩:=bx10 X9.out
 obtain ⟨s0,s1,s2,s3,s4,s5,s6,s7,s8⟩:=bx9 S9.out
 go_wp2_with fail
 refine (VC.out _ B9).mono ?_
 rintro e w10 ⟨rfl,hb⟩
 have X10:Hid (w10.heap[w.heap.size]? =_):=(hb.block _ (lt_heap X9.out)).trans X9.out
 have S10:Hid (w10.heap[SB]? =_):=(hb.block _ (lt_heap S9.out)).trans S9.out
 have B10:Below w.heap.size w w10:=B9.trans (hb.mono B9.size)
 have O10:Hid (OwnN w.heap.size (.slice p9 2 c9) [hd,nm] w10):=O9.out.bel hb
 clear hb X9 S9 B9 O9 x0 x1 x2 x3 x4 x5 x6 x7 x8 x9 s0 s1 s2 s3 s4 s5 s6 s7 s8
 obtain ⟨x0,x1,x2,x3,x4,x5,x6,x7,x8,x9⟩:=bx10 X10.out
 obtain ⟨s0,s1,s2,s3,s4,s5,s6,s7,s8⟩:=bx9 S10.out
 have z10:=B10.size
 go_wp2_with (at_builtin;refine wpList_append_own _ rfl _ _ 22 rfl w.heap.size 9 i0 (.string ByteArray.empty) 1 16 Tryz.underlying22 hi hz0 hz1 hz2 rfl (by decide) _ _ _ rfl (World.ownsRow.alloc O10.out _) ⟨w10.heap.size,0,none⟩ 1 1 [.string VL] rfl rfl ?cc1 ?cc2 ?cc3 ?cc4 ?cc5 ?_)
 case cc1=>(intro j u hj;rw [Addr.add_lit];(rcases j with _ | j)<;>simp at hj<;>subst hj<;>simp (maxDischargeDepth:=12) [go_sem])
 case cc2=>(intro u hu;simp at hu;subst hu;rfl)
 case cc3=>unfold maxLen;simp;try omega
 case cc4=>simp;try omega
 case cc5=>first | omega | (simp;omega)
 intro v11 w11 h2 h3 _
 have X11:Hid (w11.heap[w.heap.size]? =_):=(h3.block _ (Nat.lt_succ_of_lt (lt_heap X10.out) |> fun q=>by simpa using q) (own_neX O10.out X10.out (by decide)).symm).trans ((Below.heap_alloc _ _ _ (lt_heap X10.out)).trans X10.out)
 have S11:Hid (w11.heap[SB]? =_):=(h3.block _ (Nat.lt_succ_of_lt (lt_heap S10.out) |> fun q=>by simpa using q) (own_neX O10.out S10.out (by decide)).symm).trans ((Below.heap_alloc _ _ _ (lt_heap S10.out)).trans S10.out)
 have B11:Below w.heap.size w w11:=Below.grown (B10.alloc z10 _) h3 (by simp;omega) (fun q hq=>(World.ownsRow.lt O10.out q hq).1)
 have O11:Hid (OwnN w.heap.size v11 [hd,nm,VL] w11):=h2
 obtain ⟨p11,c11,rfl⟩:∃ p c,v11=.slice p 3 c:=by obtain ⟨p,c,h, -⟩:=O11.out.cap;exact ⟨p,c,h⟩
 clear h2 h3 X10 S10 B10 O10 z10 x0 x1 x2 x3 x4 x5 x6 x7 x8 x9 s0 s1 s2 s3 s4 s5 s6 s7 s8
 obtain ⟨x0,x1,x2,x3,x4,x5,x6,x7,x8,x9⟩:=bx10 X11.out
 obtain ⟨s0,s1,s2,s3,s4,s5,s6,s7,s8⟩:=bx9 S11.out
 go_wp2_with fail
 refine (ET.out _ B11).mono ?_
 rintro e w12 ⟨v12,rfl,hO,hb⟩
 have X12:Hid (w12.heap[w.heap.size]? =_):=(hb.block _ (lt_heap X11.out)).trans X11.out
 have S12:Hid (w12.heap[SB]? =_):=(hb.block _ (lt_heap S11.out)).trans S11.out
 have B12:Below w.heap.size w w12:=B11.trans (hb.mono B11.size)
 have O12:Hid (OwnN w.heap.size (.slice p11 3 c11) ([hd,nm,VL]) w12):=O11.out.bel hb
 have P12:Hid (OwnN w11.heap.size v12 LT w12):=hO
 obtain ⟨q12,d12,rfl⟩:∃ p c,v12=.slice p LT.length c:=by obtain ⟨p,c,h, -⟩:=hO.cap;exact ⟨p,c,h⟩
 have z12:=B12.size
 clear hb hO X11 S11 B11 O11 x0 x1 x2 x3 x4 x5 x6 x7 x8 x9 s0 s1 s2 s3 s4 s5 s6 s7 s8
 go_wp2_with (at_builtin;refine wpList_append_srcA rfl _ _ 22 rfl w.heap.size 9 i0 (.string ByteArray.empty) 1 16 Tryz.underlying22 hi hz0 hz1 hz2 rfl (by decide) (.slice p11 3 c11) 3 (([hd,nm,VL]).map Value.string) rfl O12.out (.slice q12 LT.length d12) LT.length (LT.map Value.string) rfl (src_names P12.out) ?ce1 ?ce2 ?ce3 ?ce4 ?_)
 case ce1=>(intro u hu;obtain ⟨s, -,rfl⟩:=List.mem_map.1 hu;rfl)
 case ce2=>unfold maxLen;first | omega | (simp;omega)
 case ce3=>first | omega | (simp;omega)
 case ce4=>first | omega | (simp;omega)
 intro v13 w13 h2 h3 _
 have X13:Hid (w13.heap[w.heap.size]? =_):=(h3.block _ (lt_heap X12.out) (own_neX O12.out X12.out (by decide)).symm).trans X12.out
 have S13:Hid (w13.heap[SB]? =_):=(h3.block _ (lt_heap S12.out) (own_neX O12.out S12.out (by decide)).symm).trans S12.out
 have B13:Below w.heap.size w w13:=Below.grown B12 h3 (by omega) (fun q hq=>(World.ownsRow.lt O12.out q hq).1)
 have O13:Hid (OwnN w.heap.size v13 ([hd,nm,VL]++LT) w13):=row_cast h2 (by simp;try omega) (by simp)
 obtain ⟨n13,en13⟩:∃ n,Hid (([hd,nm,VL]++LT).length=n):=⟨_,rfl⟩
 obtain ⟨p13,c13,rfl⟩:∃ p c,v13=.slice p n13 c:=by obtain ⟨p,c,h, -⟩:=O13.out.cap;rw [en13.out] at h;exact ⟨p,c,h⟩
 clear h2 h3 X12 S12 B12 O12 P12 z12
 obtain ⟨x0,x1,x2,x3,x4,x5,x6,x7,x8,x9⟩:=bx10 X13.out
 obtain ⟨s0,s1,s2,s3,s4,s5,s6,s7,s8⟩:=bx9 S13.out
 go_wp2_with fail
 refine (ER.out _ B13).mono ?_
 rintro e w14 ⟨v14,rfl,hO,hb⟩
 have X14:Hid (w14.heap[w.heap.size]? =_):=(hb.block _ (lt_heap X13.out)).trans X13.out
 have S14:Hid (w14.heap[SB]? =_):=(hb.block _ (lt_heap S13.out)).trans S13.out
 have B14:Below w.heap.size w w14:=B13.trans (hb.mono B13.size)
 have O14:Hid (OwnN w.heap.size (.slice p13 n13 c13) ([hd,nm,VL]++LT) w14):=O13.out.bel hb
 have P14:Hid (OwnN w13.heap.size v14 LR w14):=hO
 obtain ⟨q14,d14,rfl⟩:∃ p c,v14=.slice p LR.length c:=by obtain ⟨p,c,h, -⟩:=hO.cap;exact ⟨p,c,h⟩
 have z14:=B14.size
 clear hb hO X13 S13 B13 O13 x0 x1 x2 x3 x4 x5 x6 x7 x8 x9 s0 s1 s2 s3 s4 s5 s6 s7 s8
 go_wp2_with (at_builtin;refine wpList_append_srcA rfl _ _ 22 rfl w.heap.size 9 i0 (.string ByteArray.empty) 1 16 Tryz.underlying22 hi hz0 hz1 hz2 rfl (by decide) (.slice p13 n13 c13) ([hd,nm,VL]++LT).length (([hd,nm,VL]++LT).map Value.string) rfl O14.out (.slice q14 LR.length d14) LR.length (LR.map Value.string) rfl (src_names P14.out) ?ce1 ?ce2 ?ce3 ?ce4 ?_)
 case ce1=>(intro u hu;obtain ⟨s, -,rfl⟩:=List.mem_map.1 hu;rfl)
 case ce2=>unfold maxLen;first | omega | (simp;omega)
 case ce3=>first | omega | (simp;omega)
 case ce4=>first | omega | (simp;omega)
 intro v15 w15 h2 h3 _
 have X15:Hid (w15.heap[w.heap.size]? =_):=(h3.block _ (lt_heap X14.out) (own_neX O14.out X14.out (by decide)).symm).trans X14.out
 have S15:Hid (w15.heap[SB]? =_):=(h3.block _ (lt_heap S14.out) (own_neX O14.out S14.out (by decide)).symm).trans S14.out
 have B15:Below w.heap.size w w15:=Below.grown B14 h3 (by omega) (fun q hq=>(World.ownsRow.lt O14.out q hq).1)
 have O15:Hid (OwnN w.heap.size v15 ([hd,nm,VL]++LT++LR) w15):=row_cast h2 (by simp;try omega) (by simp)
 obtain ⟨n15,en15⟩:∃ n,Hid (([hd,nm,VL]++LT++LR).length=n):=⟨_,rfl⟩
 obtain ⟨p15,c15,rfl⟩:∃ p c,v15=.slice p n15 c:=by obtain ⟨p,c,h, -⟩:=O15.out.cap;rw [en15.out] at h;exact ⟨p,c,h⟩
 clear h2 h3 X14 S14 B14 O14 P14 z14
 obtain ⟨x0,x1,x2,x3,x4,x5,x6,x7,x8,x9⟩:=bx10 X15.out
 obtain ⟨s0,s1,s2,s3,s4,s5,s6,s7,s8⟩:=bx9 S15.out
 go_wp2_with fail
 refine (EF.out _ B15).mono ?_
 rintro e w16 ⟨v16,rfl,hO,hb⟩
 have X16:Hid (w16.heap[w.heap.size]? =_):=(hb.block _ (lt_heap X15.out)).trans X15.out
 have S16:Hid (w16.heap[SB]? =_):=(hb.block _ (lt_heap S15.out)).trans S15.out
 have B16:Below w.heap.size w w16:=B15.trans (hb.mono B15.size)
 have O16:Hid (OwnN w.heap.size (.slice p15 n15 c15) ([hd,nm,VL]++LT++LR) w16):=O15.out.bel hb
 have P16:Hid (OwnN w15.heap.size v16 LF w16):=hO
 obtain ⟨q16,d16,rfl⟩:∃ p c,v16=.slice p LF.length c:=by obtain ⟨p,c,h, -⟩:=hO.cap;exact ⟨p,c,h⟩
 have z16:=B16.size
 clear hb hO X15 S15 B15 O15 x0 x1 x2 x3 x4 x5 x6 x7 x8 x9 s0 s1 s2 s3 s4 s5 s6 s7 s8
 go_wp2_with (at_builtin;refine wpList_append_srcA rfl _ _ 22 rfl w.heap.size 9 i0 (.string ByteArray.empty) 1 16 Tryz.underlying22 hi hz0 hz1 hz2 rfl (by decide) (.slice p15 n15 c15) ([hd,nm,VL]++LT++LR).length (([hd,nm,VL]++LT++LR).map Value.string) rfl O16.out (.slice q16 LF.length d16) LF.length (LF.map Value.string) rfl (src_names P16.out) ?ce1 ?ce2 ?ce3 ?ce4 ?_)
 case ce1=>(intro u hu;obtain ⟨s, -,rfl⟩:=List.mem_map.1 hu;rfl)
 case ce2=>unfold maxLen;first | omega | (simp;omega)
 case ce3=>first | omega | (simp;omega)
 case ce4=>first | omega | (simp;omega)
 intro v17 w17 h2 h3 _
 have X17:Hid (w17.heap[w.heap.size]? =_):=(h3.block _ (lt_heap X16.out) (own_neX O16.out X16.out (by decide)).symm).trans X16.out
 have S17:Hid (w17.heap[SB]? =_):=(h3.block _ (lt_heap S16.out) (own_neX O16.out S16.out (by decide)).symm).trans S16.out
 have B17:Below w.heap.size w w17:=Below.grown B16 h3 (by omega) (fun q hq=>(World.ownsRow.lt O16.out q hq).1)
 have O17:Hid (OwnN w.heap.size v17 ([hd,nm,VL]++LT++LR++LF) w17):=row_cast h2 (by simp;try omega) (by simp)
 obtain ⟨n17,en17⟩:∃ n,Hid (([hd,nm,VL]++LT++LR++LF).length=n):=⟨_,rfl⟩
 obtain ⟨p17,c17,rfl⟩:∃ p c,v17=.slice p n17 c:=by obtain ⟨p,c,h, -⟩:=O17.out.cap;rw [en17.out] at h;exact ⟨p,c,h⟩
 clear h2 h3 X16 S16 B16 O16 P16 z16
 have NV:NmsAt w17 (.slice p17 n17 c17) ([hd,nm,VL]++LT++LR++LF):=O17.out.nms (by simp;omega)
 go_wp2_with fail
 refine (BK.out _ _ NV).mono ?_
 rintro e wz ⟨rfl,hb⟩
 go_wp2
 go_ret
 exact ⟨rfl,B17.trans (hb.mono B17.size)⟩
end Go.Proofs.YticnfeolbfmgfaaGreatDoor
