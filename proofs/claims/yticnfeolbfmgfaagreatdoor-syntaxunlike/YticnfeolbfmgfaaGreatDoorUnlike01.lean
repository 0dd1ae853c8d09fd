/- What syntaxUnlike_holds needs besides. -/
import Derived.Test.YticnfeolbfmgfaaGreatDoorZ10
set_option maxRecDepth 100000
set_option maxHeartbeats 8000000
namespace Go.Proofs.YticnfeolbfmgfaaGreatDoor
open Go.RowKit LX Go.Shelf
set_option linter.unusedVariables false
theorem by_list {a b:ByteArray} (h:(a.toList==b.toList)=true):a=b:=by
 have h1:a.toList=b.toList:=by simpa using h
 rw [toList_data,toList_data] at h1
 cases a with
 | mk x=>cases b with
  | mk y=>
   cases x with
   | mk p=>cases y with
    | mk q=>simp at h1;rw [h1]
theorem val_same {x y:Val} (h:x.same y=true):x=y:=by
 unfold Val.same sameB at h
 simp only [Bool.and_eq_true,beq_iff_eq] at h
 obtain ⟨h1,h2,h3,h4⟩:=h
 have h5:x.s=y.s:=by_list (by simpa using h4)
 cases x
 cases y
 dsimp only at h1 h2 h3 h5
 rw [h1,h2,h3,h5]
theorem fm_eta (f:Fm):f=.mk f.k f.nm f.op f.vars f.terms f.lo f.hi f.opn f.subs f.rgx:=by cases f;rfl
theorem rx_eta (r:Rx):r=.mk r.k r.test r.subs:=by cases r;rfl
theorem tms_same:∀ (m:Nat) (xs ys:List Tm),SizeOf.sizeOf xs≤m→sameTs xs ys=true→xs=ys:=by
 intro m
 induction m with
 | zero=>intro xs ys hn;cases xs<;>simp at hn
 | succ m ih=>
  intro xs ys hn h
  cases xs with
  | nil=>
   cases ys with
   | nil=>rfl
   | cons y ys=>rw [sameTs_len (by simp)] at h;cases h
  | cons x xs=>
   cases ys with
   | nil=>rw [sameTs_len (by simp)] at h;cases h
   | cons y ys=>
    rw [sameTs_cons,sameT_eq] at h
    simp only [Bool.and_eq_true,beq_iff_eq] at h
    obtain ⟨⟨h1,h2,h3,h4⟩,h5⟩:=h
    have s:=Tm.subs_lt x
    simp at hn
    have h2':x.nm=y.nm:=by_list (by simpa using h2)
    have e:x=y:=by
     rw [tm_eta x,tm_eta y,h1,h2',val_same h3,ih x.subs y.subs (by omega) h4]
    rw [e,ih xs ys (by omega) h5]
theorem both_eqs:∀ m:Nat,(∀ xs ys:List Fm,SizeOf.sizeOf xs≤m→sameFs xs ys=true→xs=ys)∧(∀ xs ys:List Rx,SizeOf.sizeOf xs≤m→sameRs xs ys=true→xs=ys):=by
 intro m
 induction m with
 | zero=>exact ⟨fun xs ys hn=>by cases xs<;>simp at hn,fun xs ys hn=>by cases xs<;>simp at hn⟩
 | succ m ih=>
  constructor
  ·intro xs ys hn h
   cases xs with
   | nil=>
    cases ys with
    | nil=>rfl
    | cons y ys=>rw [sameFs_len (by simp)] at h;cases h
   | cons x xs=>
    cases ys with
    | nil=>rw [sameFs_len (by simp)] at h;cases h
    | cons y ys=>
     rw [sameFs_cons,sameF_eq] at h
     simp only [Bool.and_eq_true,beq_iff_eq,decide_eq_true_eq] at h
     obtain ⟨⟨h1,h2,h3,⟨h4,h5,h6⟩,h7,h8,h9,h10⟩,h11⟩:=h
     have s1:=Fm.subs_lt x
     have s2:=Fm.rgx_lt x
     simp at hn
     have h2':x.nm=y.nm:=by_list (by simpa using h2)
     have e:x=y:=by
      rw [fm_eta x,fm_eta y,h1,h2',h3,h4,h5,h6,h7,tms_same _ x.terms y.terms (Nat.le_refl _) h8,ih.2 x.rgx y.rgx (by omega) h9,ih.1 x.subs y.subs (by omega) h10]
     rw [e,ih.1 xs ys (by omega) h11]
  ·intro xs ys hn h
   cases xs with
   | nil=>
    cases ys with
    | nil=>rfl
    | cons y ys=>rw [sameRs_len (by simp)] at h;cases h
   | cons x xs=>
    cases ys with
    | nil=>rw [sameRs_len (by simp)] at h;cases h
    | cons y ys=>
     rw [sameRs_cons,sameR_eq] at h
     simp only [Bool.and_eq_true,beq_iff_eq] at h
     obtain ⟨⟨h1,h2,h3⟩,h4⟩:=h
     have s1:=Rx.subs_lt x
     have s2:=Rx.test_lt x
     simp at hn
     have e:x=y:=by rw [rx_eta x,rx_eta y,h1,ih.1 x.test y.test (by omega) h2,ih.2 x.subs y.subs (by omega) h3]
     rw [e,ih.2 xs ys (by omega) h4]
theorem same_eq {f g:Fm} (h:sameF f g=true):f=g:=by
 have q:=(both_eqs _).1 [f] [g] (Nat.le_refl _) (by rw [sameFs_cons,sameFs_nil,h];rfl)
 injection q
theorem unlike {f g:Fm} (hf:chkF f=0) (hg:chkF g=0) (tf:ftF f) (tg:ftF g):(txF f=txF g↔sameF f g=true):=by
 constructor
 ·intro h
  obtain ⟨L,a1,a2⟩:=back_all hf tf 0
  obtain ⟨M,b1,b2⟩:=back_all hg tg 0
  rw [h,b1] at a1
  injection a1 with a1
  rw [a1] at b2
  rw [b2] at a2
  injection a2 with a2
  rw [← a2]
  exact sameF_refl g
 ·intro h
  rw [same_eq h]
theorem byte_eq (a b:List UInt8):((⟨a.toArray⟩:ByteArray).toList==(⟨b.toArray⟩:ByteArray).toList)=decide (a=b):=by
 rw [toList_data,toList_data]
 by_cases h:a=b<;>simp [h]
theorem unlike_walk (f g:Fm) (q q':FQ) (w:World) (hq:QAt w (f,q)) (hq':QAt w (g,q')) (ht:Pow w) (he:Errs w) (h8:6≤w.heap.size):
  Calls Tryz.prog 8 #[.agg #[.int .i64 f.k,.string f.nm,.int .i64 f.op,q.v,q.t,.int .i64 f.lo,.int .i64 f.hi,.bool f.opn,q.s,q.r],.agg #[.int .i64 g.k,.string g.nm,.int .i64 g.op,q'.v,q'.t,.int .i64 g.lo,.int .i64 g.hi,.bool g.opn,q'.s,q'.r]] w fun e w'=>e=.returned (.bool true)∧Below w.heap.size w w':=by
 have C1:Hid (∀ W:World,Below w.heap.size w W→Calls Tryz.prog 10 #[.agg #[.int .i64 f.k,.string f.nm,.int .i64 f.op,q.v,q.t,.int .i64 f.lo,.int .i64 f.hi,.bool f.opn,q.s,q.r]] W fun e w'=>e=.returned (.tuple #[.string ⟨(prtP f).toArray⟩,.int .i64 (chkF f)])∧Below W.heap.size W w'):=fun W hW=>print_syn f q W (hq.below hW) (ht.below hW)
 have C2:Hid (∀ W:World,Below w.heap.size w W→Calls Tryz.prog 10 #[.agg #[.int .i64 g.k,.string g.nm,.int .i64 g.op,q'.v,q'.t,.int .i64 g.lo,.int .i64 g.hi,.bool g.opn,q'.s,q'.r]] W fun e w'=>e=.returned (.tuple #[.string ⟨(prtP g).toArray⟩,.int .i64 (chkF g)])∧Below W.heap.size W w'):=fun W hW=>print_syn g q' W (hq'.below hW) (ht.below hW)
 have CL:Hid (∀ W:World,Below w.heap.size w W→Calls Tryz.prog 11 #[] W fun e w'=>e=.returned (.bool true)∧Below W.heap.size W w'):=fun W hW=>live_syn W (ht.below hW) (he.below hW h8) (Nat.le_trans h8 hW.size)
 have CS:Hid (∀ W:World,Below w.heap.size w W→Calls Tryz.prog 14 #[.agg #[.int .i64 f.k,.string f.nm,.int .i64 f.op,q.v,q.t,.int .i64 f.lo,.int .i64 f.hi,.bool f.opn,q.s,q.r],.agg #[.int .i64 g.k,.string g.nm,.int .i64 g.op,q'.v,q'.t,.int .i64 g.lo,.int .i64 g.hi,.bool g.opn,q'.s,q'.r]] W fun e w'=>e=.returned (.bool (sameF f g))∧Below W.heap.size W w'):=fun W hW=>rsame_fm f g q q' W (hq.below hW) (hq'.below hW)
 have HB:chkF f=0→chkF g=0→((⟨(prtP f).toArray⟩:ByteArray).toList==(⟨(prtP g).toArray⟩:ByteArray).toList)=sameF f g:=fun hf hg=>by
  rw [byte_eq]
  unfold prtP
  rw [if_pos hf,if_pos hg]
  have u:=unlike hf hg (qat_ft hq) (qat_ft hq')
  cases hs:sameF f g with
  | true=>rw [hs] at u;exact decide_eq_true (u.2 rfl)
  | false=>rw [hs] at u;exact decide_eq_false (fun e=>by have:=u.1 e;cases this)
 have HBB:Hid (chkF f=0→chkF g=0→((⟨(prtP f).toArray⟩:ByteArray).toList==(⟨(prtP g).toArray⟩:ByteArray).toList)=sameF f g):=HB
 clear HB
 obtain ⟨uv,ut,us,ur⟩:=q
 obtain ⟨uv',ut',us',ur'⟩:=q'
 obtain ⟨qv,dv,qt,dt,qs,ds,qr,dr,rfl,rfl,rfl,rfl⟩:=fm_slices hq
 obtain ⟨qv',dv',qt',dt',qs',ds',qr',dr',rfl,rfl,rfl,rfl⟩:=fm_slices hq'
 dsimp only at C1 C2 CS ⊢
 clear hq hq' ht he
 generalize f.k=fk at*
 generalize f.nm=fnm at*
 generalize f.op=fop at*
 generalize f.lo=flo at*
 generalize f.hi=fhi at*
 generalize f.opn=fpn at*
 generalize f.vars.length=nv at*
 generalize f.terms.length=nt at*
 generalize f.subs.length=ns at*
 generalize f.rgx.length=nr at*
 generalize g.k=gk at*
 generalize g.nm=gnm at*
 generalize g.op=gop at*
 generalize g.lo=glo at*
 generalize g.hi=ghi at*
 generalize g.opn=gpn at*
 generalize g.vars.length=mv at*
 generalize g.terms.length=mt at*
 generalize g.subs.length=ms at*
 generalize g.rgx.length=mr at*
 generalize (⟨(prtP f).toArray⟩:ByteArray)=S at*
 generalize (⟨(prtP g).toArray⟩:ByteArray)=S' at*
 generalize sameF f g=SB at*
 generalize chkF f=E at*
 generalize chkF g=E' at*
 go_enter Tryz.func8,Tryz.ntmps8
 go_upto_region 1 with fail
 refine wp_world ?_
 intro W0 hW0
 have X0:Hid (W0.heap[w.heap.size]? =some (.cells #[.int .i64 fk,.string fnm,.int .i64 fop,.slice qv nv dv,.slice qt nt dt,.int .i64 flo,.int .i64 fhi,.bool fpn,.slice qs ns ds,.slice qr nr dr] 29 (0,0))):=by rw [hW0];exact (Below.heap_alloc _ _ _ (by simp)).trans (new_box w _)
 have Y0:Hid (W0.heap[w.heap.size+1]? =some (.cells #[.int .i64 gk,.string gnm,.int .i64 gop,.slice qv' mv dv',.slice qt' mt dt',.int .i64 glo,.int .i64 ghi,.bool gpn,.slice qs' ms ds',.slice qr' mr dr'] 29 (0,0))):=by
  rw [hW0]
  have q:=new_box (w.alloc (.cells #[.int .i64 fk,.string fnm,.int .i64 fop,.slice qv nv dv,.slice qt nt dt,.int .i64 flo,.int .i64 fhi,.bool fpn,.slice qs ns ds,.slice qr nr dr] 29)) (.cells #[.int .i64 gk,.string gnm,.int .i64 gop,.slice qv' mv dv',.slice qt' mt dt',.int .i64 glo,.int .i64 ghi,.bool gpn,.slice qs' ms ds',.slice qr' mr dr'] 29)
  simp only [World.size_alloc] at q
  exact q
 have B0:Below w.heap.size w W0:=by rw [hW0];exact ((Below.refl _ _).alloc (Nat.le_refl _) _).alloc (by simp) _
 clear hW0
 obtain ⟨x0,x1,x2,x3,x4,x5,x6,x7,x8,x9⟩:=bx10 X0.out
 go_wp2_with fail
 refine (C1.out W0 B0).mono ?_
 rintro e w1 ⟨rfl,hb1⟩
 have X1:Hid (w1.heap[w.heap.size]? =_):=(hb1.block _ (lt_heap X0.out)).trans X0.out
 have Y1:Hid (w1.heap[w.heap.size+1]? =_):=(hb1.block _ (lt_heap Y0.out)).trans Y0.out
 have B1:Below w.heap.size w w1:=B0.trans (hb1.mono B0.size)
 clear hb1 X0 Y0 B0 C1 x0 x1 x2 x3 x4 x5 x6 x7 x8 x9
 obtain ⟨y0,y1,y2,y3,y4,y5,y6,y7,y8,y9⟩:=bx10 Y1.out
 go_wp2_with fail
 refine (C2.out w1 B1).mono ?_
 rintro e w2 ⟨rfl,hb2⟩
 have X2:Hid (w2.heap[w.heap.size]? =_):=(hb2.block _ (lt_heap X1.out)).trans X1.out
 have Y2:Hid (w2.heap[w.heap.size+1]? =_):=(hb2.block _ (lt_heap Y1.out)).trans Y1.out
 have B2:Below w.heap.size w w2:=B1.trans (hb2.mono B1.size)
 clear hb2 X1 Y1 B1 C2 y0 y1 y2 y3 y4 y5 y6 y7 y8 y9
 by_cases hE:E=0∧E'=0
 ·obtain ⟨rfl,rfl⟩:=hE
  have hEq:=HBB.out rfl rfl
  clear HBB
  obtain ⟨x0,x1,x2,x3,x4,x5,x6,x7,x8,x9⟩:=bx10 X2.out
  obtain ⟨y0,y1,y2,y3,y4,y5,y6,y7,y8,y9⟩:=bx10 Y2.out
  go_wp2_with fail
  refine (CS.out w2 B2).mono ?_
  rintro e w3 ⟨rfl,hb3⟩
  have B3:Below w.heap.size w w3:=B2.trans (hb3.mono B2.size)
  clear hb3 X2 Y2 B2 CS x0 x1 x2 x3 x4 x5 x6 x7 x8 x9 y0 y1 y2 y3 y4 y5 y6 y7 y8 y9
  go_wp2_with fail
  refine (CL.out w3 B3).mono ?_
  rintro e w4 ⟨rfl,hb4⟩
  go_wp2
  go_ret
  exact ⟨rfl,B3.trans (hb4.mono B3.size)⟩
 ·clear HBB CS X2 Y2
  have hc:(E != 0)=true∨((E != 0)=false∧(E' != 0)=true):=by
   by_cases h1:E=0
   ·right;simp [h1];exact fun h2=>hE ⟨h1,h2⟩
   ·left;simpa using h1
  clear hE
  rcases hc with h1 | ⟨h1,h2⟩
  ·go_wp2_with fail
   refine (CL.out w2 B2).mono ?_
   rintro e w4 ⟨rfl,hb4⟩
   go_wp2
   go_ret
   exact ⟨rfl,B2.trans (hb4.mono B2.size)⟩
  ·go_wp2_with fail
   refine (CL.out w2 B2).mono ?_
   rintro e w4 ⟨rfl,hb4⟩
   go_wp2
   go_ret
   exact ⟨rfl,B2.trans (hb4.mono B2.size)⟩
end Go.Proofs.YticnfeolbfmgfaaGreatDoor
