/- What the claims of this seat share: base. -/
import Derived.Test.YticnfeolbfmgfaaGreatDoorZ08
import Derived.Deep.DeepCutAuto
set_option maxRecDepth 100000
set_option maxHeartbeats 8000000
namespace Go.Proofs.YticnfeolbfmgfaaGreatDoor
open Go.RowKit LX Go.Shelf
set_option linter.unusedVariables false
theorem shaped_timed {nt nr ns:Nat} {mm:Bool} (m R sz N:Nat) (ts:List (Tok Val)) (d k:Int) (hd:ByteArray) (w:World) (h:RdAt m w R sz ts) (n:Nat) (pt:List (Tok Val)→Rd Tm) (pf:List (Tok Val)→Rd Fm) (pr:List (Tok Val)→Rd Rx) (hst:Shr pt) (hsr:Shr pr) (hN:ts.length≤N) (hk1:3≤k) (hk2:k≤22) (hk:shp k=⟨false,false,false,true,nt,nr,ns,mm⟩) (hhd:(⟨(if k=3 then [] else hdF k).toArray⟩:ByteArray)=hd)
  (HT:∀ (kk:Nat) (rr:List (Tok Val)) (W:World),rr.length≤N→RdAt m W R sz rr→Calls Tryz.prog 120 #[.pointer (some ⟨R,0,none⟩),.int .i64 ((kk:Nat):Int),.bool false,.int .i64 d] W (RdO m R sz W (fun l v w'=>TmsOwn (fun q=>W.heap.size≤q) w' v l) (rMany pt false n kk rr)))
  (HR:∀ (kk:Nat) (rr:List (Tok Val)) (W:World),rr.length≤N→RdAt m W R sz rr→Calls Tryz.prog 158 #[.pointer (some ⟨R,0,none⟩),.int .i64 ((kk:Nat):Int),.int .i64 d] W (RdO m R sz W (fun l v w'=>RxsOwn (fun q=>W.heap.size≤q) w' v l) (rMany pr false n kk rr)))
  (HF:∀ (kk:Nat) (more:Bool) (rr:List (Tok Val)) (W:World),rr.length≤N→RdAt m W R sz rr→Calls Tryz.prog 159 #[.pointer (some ⟨R,0,none⟩),.int .i64 ((kk:Nat):Int),.bool more,.int .i64 d] W (RdO m R sz W (fun l v w'=>FmsOwn (fun q=>W.heap.size≤q) w' v l) (rMany pf more n kk rr))):
  Calls Tryz.prog 121 #[.pointer (some ⟨R,0,none⟩),.int .i64 k,.int .i64 d] w (RdO m R sz w (FmV w) (pShaped sz n pt pf pr k ts)):=by
 have hlt:=h.lt
 obtain ⟨RS,hRS⟩:∃ x:Rd Fm,Hid (pShaped sz n pt pf pr k ts=x):=⟨_,rfl⟩
 rw [hRS.out]
 have hEQ:Hid (RS=(rIv sz ts).bind fun iv r5=>(rMany pt false n nt r5).bind fun tms r6=>(rMany pr false n nr r6).bind fun rx r7=>(rMany pf mm n ns r7).bind fun fs r8=>.ok (.mk k ⟨#[]⟩ 0 [] tms iv.1 iv.2.1 iv.2.2 fs rx) r8):=by
  show _=_
  rw [← hRS.out]
  unfold pShaped
  rw [hk]
  rfl
 have cS:Hid (∀ W:World,Calls Tryz.prog 35 #[.int .i64 k] W fun e w'=>e=.returned (.agg #[.string hd,.bool false,.bool false,.bool false,.bool true,.int .i64 ((nt:Nat):Int),.int .i64 ((nr:Nat):Int),.int .i64 ((ns:Nat):Int),.bool mm])∧Below W.heap.size W w'):=fun W=>by
  have q:=shape_any k W hk1 hk2
  rw [hk] at q
  rw [← hhd]
  exact q
 have CT:Hid (∀ (rr:List (Tok Val)) (W:World),rr.length≤N→RdAt m W R sz rr→Calls Tryz.prog 120 #[.pointer (some ⟨R,0,none⟩),.int .i64 ((nt:Nat):Int),.bool false,.int .i64 d] W (RdO m R sz W (fun l v w'=>TmsOwn (fun q=>W.heap.size≤q) w' v l) (rMany pt false n nt rr))):=fun rr W hl hW=>HT nt rr W hl hW
 have CR:Hid (∀ (rr:List (Tok Val)) (W:World),rr.length≤N→RdAt m W R sz rr→Calls Tryz.prog 158 #[.pointer (some ⟨R,0,none⟩),.int .i64 ((nr:Nat):Int),.int .i64 d] W (RdO m R sz W (fun l v w'=>RxsOwn (fun q=>W.heap.size≤q) w' v l) (rMany pr false n nr rr))):=fun rr W hl hW=>HR nr rr W hl hW
 have CF:Hid (∀ (rr:List (Tok Val)) (W:World),rr.length≤N→RdAt m W R sz rr→Calls Tryz.prog 159 #[.pointer (some ⟨R,0,none⟩),.int .i64 ((ns:Nat):Int),.bool mm,.int .i64 d] W (RdO m R sz W (fun l v w'=>FmsOwn (fun q=>W.heap.size≤q) w' v l) (rMany pf mm n ns rr))):=fun rr W hl hW=>HF ns mm rr W hl hW
 have CI:Hid (∀ (rr:List (Tok Val)) (W:World),RdAt m W R sz rr→Calls Tryz.prog 157 #[.pointer (some ⟨R,0,none⟩)] W (RdO m R sz W (fun iv v _=>v=.agg #[.int .i64 iv.1,.int .i64 iv.2.1,.bool iv.2.2]) (rIv sz rr))):=fun rr W hW=>rival_any m R sz rr W hW
 have STm:Hid (∀ kk ts a r,rMany pt false n kk ts=.ok a r→r.length≤ts.length):=fun kk ts a r e=>sh_many (fun ts a r e=>by have:=hst ts a r e;omega) false n kk ts a r e
 have SRm:Hid (∀ kk ts a r,rMany pr false n kk ts=.ok a r→r.length≤ts.length):=fun kk ts a r e=>sh_many (fun ts a r e=>by have:=hsr ts a r e;omega) false n kk ts a r e
 clear hRS HT HR HF hst hsr hk hhd
 go_enter Tryz.func121,Tryz.ntmps121
 go_wp2_with fail
 refine (cS.out _).mono ?_
 rintro e w1 ⟨rfl,hb1⟩
 have z1:w.heap.size<w1.heap.size:=by have:=hb1.size;simp at this;omega
 have X1:Hid (w1.heap[w.heap.size]? =some (.cells #[.int .i64 0,.string ⟨#[]⟩,.int .i64 0,.slice none 0 0,.slice none 0 0,.int .i64 0,.int .i64 0,.bool false,.slice none 0 0,.slice none 0 0] 29 (0,0))):=(hb1.block w.heap.size (by simp)).trans (new_box w _)
 have F1:Hid (Fr (fun k=>k=R) w w1):=Fr.of_below (((Below.refl _ _).alloc (Nat.le_refl _) _).trans (hb1.mono (by simp)))
 have A1:Hid (RdAt m w1 R sz ts):=h.below (((Below.refl _ _).alloc (Nat.le_refl _) _).trans (hb1.mono (by simp)))
 clear hb1 cS h
 go_upto_region 2 with fail
 refine wp_world ?_
 intro W2 hW2
 have S2:Hid (W2.heap[w1.heap.size]? =some (.cells #[.string hd,.bool false,.bool false,.bool false,.bool true,.int .i64 ((nt:Nat):Int),.int .i64 ((nr:Nat):Int),.int .i64 ((ns:Nat):Int),.bool mm] 82 (0,0))):=by rw [hW2];exact (Below.heap_alloc _ _ _ (by simp)).trans (new_box w1 _)
 have B2:Hid (W2.heap[w1.heap.size+1]? =some (.cells #[.int .i64 k,.string ⟨#[]⟩,.int .i64 0,.slice none 0 0,.slice none 0 0,.int .i64 0,.int .i64 0,.bool false,.slice none 0 0,.slice none 0 0] 29 (0,0))):=by
  rw [hW2]
  have q:=new_box (w1.alloc (.cells #[.string hd,.bool false,.bool false,.bool false,.bool true,.int .i64 ((nt:Nat):Int),.int .i64 ((nr:Nat):Int),.int .i64 ((ns:Nat):Int),.bool mm] 82)) (.cells #[.int .i64 k,.string ⟨#[]⟩,.int .i64 0,.slice none 0 0,.slice none 0 0,.int .i64 0,.int .i64 0,.bool false,.slice none 0 0,.slice none 0 0] 29)
  simp only [World.size_alloc] at q
  exact q
 have X2:Hid (W2.heap[w.heap.size]? =some (.cells #[.int .i64 0,.string ⟨#[]⟩,.int .i64 0,.slice none 0 0,.slice none 0 0,.int .i64 0,.int .i64 0,.bool false,.slice none 0 0,.slice none 0 0] 29 (0,0))):=by rw [hW2];exact (((Fr.refl (fun k=>k=R) w1).alloc _).alloc _).heap X1.out (fun e=>by omega)
 have F2:Hid (Fr (fun k=>k=R) w W2):=by rw [hW2];exact (F1.out.alloc _).alloc _
 have A2:Hid (RdAt m W2 R sz ts):=by rw [hW2];exact A1.out.below (((Below.refl w1.heap.size w1).alloc (Nat.le_refl _) _).alloc (by simp) _)
 have zz:w1.heap.size+2=W2.heap.size:=by rw [hW2];simp
 clear hW2 F1 A1 X1
 generalize w1.heap.size=n7 at*
 have ZN:Hid (n7+2=W2.heap.size):=zz
 obtain ⟨N2,hN2⟩:∃ x,Hid (W2.heap.size=x):=⟨_,rfl⟩
 have zz2:n7+2=N2:=by rw [← hN2.out];exact ZN.out
 have y2:N2≤W2.heap.size:=Nat.le_of_eq hN2.out.symm
 clear zz ZN hN2
 obtain ⟨s0,s1,s2,s3,s4,s5,s6,s7,s8⟩:=bx9 S2.out
 have K3:Hid (Calls Tryz.prog 157 #[.pointer (some ⟨R,0,none⟩)] W2 (RdO m R sz W2 (fun iv v _=>v=.agg #[.int .i64 iv.1,.int .i64 iv.2.1,.bool iv.2.2]) (rIv sz ts))):=CI.out ts W2 A2.out
 cases hP3:rIv sz ts with
 | bad er a=>
  rw [hP3] at K3 hEQ
  go_wp2_with fail
  refine K3.out.mono ?_
  rintro e w9 ⟨rfl,hF9⟩
  refine ⟨rfl, ?_⟩
  rw [hEQ.out]
  exact ⟨rfl,F2.out.trans hF9 (fun k e=>Or.inl e)⟩
 | ok x3 r5=>
  rw [hP3,Rd.bind_ok] at hEQ
  rw [hP3] at K3
  have hl3:=sh_iv sz _ _ _ hP3
  clear hP3
  go_wp2_with fail
  refine K3.out.mono ?_
  rintro e w3 ⟨v3,rfl,rfl,hA9,hF9⟩
  have F3:Hid (Fr (fun k=>k=R) w w3):=F2.out.trans hF9 (fun k e=>Or.inl e)
  have S3:Hid (w3.heap[n7]? =_):=hF9.heap S2.out (fun e=>by omega)
  have B3:Hid (w3.heap[n7+1]? =_):=hF9.heap B2.out (fun e=>by omega)
  have X3:Hid (w3.heap[w.heap.size]? =_):=hF9.heap X2.out (fun e=>by omega)
  have A3:Hid (RdAt m w3 R sz r5):=hA9
  have y3:N2≤w3.heap.size:=Nat.le_trans y2 hF9.size
  clear hF9 hA9 K3 F2 S2 B2 X2 A2 s0 s1 s2 s3 s4 s5 s6 s7 s8
  obtain ⟨b0,b1,b2,b3,b4,b5,b6,b7,b8,b9⟩:=bx10 B3.out
  obtain ⟨g0,g1,g2,g3,g4,g5,g6,g7,g8,g9⟩:=bz10 B3.out
  go_upto_region 11 with fail
  refine wp_world ?_
  intro W4 hW4
  have G4:Hid (Fr (fun k=>k=n7+1) w3 W4):=by rw [hW4];exact (((Fr.refl (fun k=>k=n7+1) w3).setCell (p:=⟨n7+1,5,none⟩) (Or.inl rfl) _).setCell (p:=⟨n7+1,6,none⟩) (Or.inl rfl) _).setCell (p:=⟨n7+1,7,none⟩) (Or.inl rfl) _
  have B4:Hid (W4.heap[n7+1]? =some (.cells #[.int .i64 k,.string ⟨#[]⟩,.int .i64 0,.slice none 0 0,.slice none 0 0,.int .i64 x3.1,.int .i64 x3.2.1,.bool x3.2.2,.slice none 0 0,.slice none 0 0] 29 (0,0))):=by rw [hW4];exact (set_heap (j:=7) (set_heap (j:=6) (set_heap (j:=5) B3.out (.int .i64 x3.1)) (.int .i64 x3.2.1)) (.bool x3.2.2))
  clear hW4
  have F4:Hid (Fr (fun k=>k=R) w W4):=F3.out.trans G4.out (fun k e=>Or.inr (by omega))
  have S4:Hid (W4.heap[n7]? =_):=G4.out.heap S3.out (fun e=>by omega)
  have X4:Hid (W4.heap[w.heap.size]? =_):=G4.out.heap X3.out (fun e=>by omega)
  have A4:Hid (RdAt m W4 R sz r5):=A3.out.fr G4.out (fun k e=>by omega)
  have y4:N2≤W4.heap.size:=Nat.le_trans y3 G4.out.size
  clear G4 F3 S3 B3 X3 A3 b0 b1 b2 b3 b4 b5 b6 b7 b8 b9 g0 g1 g2 g3 g4 g5 g6 g7 g8 g9
  obtain ⟨s0,s1,s2,s3,s4,s5,s6,s7,s8⟩:=bx9 S4.out
  have K5:Hid (Calls Tryz.prog 120 #[.pointer (some ⟨R,0,none⟩),.int .i64 ((nt:Nat):Int),.bool false,.int .i64 d] W4 (RdO m R sz W4 (fun l v w'=>TmsOwn (fun q=>W4.heap.size≤q) w' v l) (rMany pt false n nt r5))):=CT.out r5 W4 (by omega) A4.out
  cases hP5:rMany pt false n nt r5 with
  | bad er a=>
   rw [hP5] at K5 hEQ
   go_wp2_with fail
   refine K5.out.mono ?_
   rintro e w9 ⟨rfl,hF9⟩
   refine ⟨rfl, ?_⟩
   rw [hEQ.out]
   exact ⟨rfl,F4.out.trans hF9 (fun k e=>Or.inl e)⟩
  | ok x5 r6=>
   rw [hP5,Rd.bind_ok] at hEQ
   rw [hP5] at K5
   have hl5:=STm.out _ _ _ _ hP5
   clear hP5
   go_wp2_with fail
   refine K5.out.mono ?_
   rintro e w5 ⟨v5,rfl,hQ9,hA9,hF9⟩
   have O50:Hid (TmsOwn (fun q=>N2≤q) w5 v5 x5):=hQ9.mono (fun q hq _=>by omega)
   obtain ⟨p5,c5,rfl, -⟩:=hQ9.at.form
   obtain ⟨l5,el5⟩:∃ y,Hid (x5.length=y):=⟨_,rfl⟩
   rw [el5.out] at O50 ⊢
   clear hQ9
   have F5:Hid (Fr (fun k=>k=R) w w5):=F4.out.trans hF9 (fun k e=>Or.inl e)
   have S5:Hid (w5.heap[n7]? =_):=hF9.heap S4.out (fun e=>by omega)
   have B5:Hid (w5.heap[n7+1]? =_):=hF9.heap B4.out (fun e=>by omega)
   have X5:Hid (w5.heap[w.heap.size]? =_):=hF9.heap X4.out (fun e=>by omega)
   have A5:Hid (RdAt m w5 R sz r6):=hA9
   have y5:N2≤w5.heap.size:=Nat.le_trans y4 hF9.size
   clear hF9 hA9 K5 F4 S4 B4 X4 A4 s0 s1 s2 s3 s4 s5 s6 s7 s8
   obtain ⟨b0,b1,b2,b3,b4,b5,b6,b7,b8,b9⟩:=bx10 B5.out
   obtain ⟨g0,g1,g2,g3,g4,g5,g6,g7,g8,g9⟩:=bz10 B5.out
   go_upto_region 12 with fail
   refine wp_world ?_
   intro W6 hW6
   have G6:Hid (Fr (fun k=>k=n7+1) w5 W6):=by rw [hW6];exact (Fr.refl (fun k=>k=n7+1) w5).setCell (p:=⟨n7+1,4,none⟩) (Or.inl rfl) _
   have B6:Hid (W6.heap[n7+1]? =some (.cells #[.int .i64 k,.string ⟨#[]⟩,.int .i64 0,.slice none 0 0,.slice p5 l5 c5,.int .i64 x3.1,.int .i64 x3.2.1,.bool x3.2.2,.slice none 0 0,.slice none 0 0] 29 (0,0))):=by rw [hW6];exact (set_heap (j:=4) B5.out (.slice p5 l5 c5))
   clear hW6
   have F6:Hid (Fr (fun k=>k=R) w W6):=F5.out.trans G6.out (fun k e=>Or.inr (by omega))
   have S6:Hid (W6.heap[n7]? =_):=G6.out.heap S5.out (fun e=>by omega)
   have X6:Hid (W6.heap[w.heap.size]? =_):=G6.out.heap X5.out (fun e=>by omega)
   have A6:Hid (RdAt m W6 R sz r6):=A5.out.fr G6.out (fun k e=>by omega)
   have y6:N2≤W6.heap.size:=Nat.le_trans y5 G6.out.size
   have O650:Hid (TmsOwn (fun q=>N2≤q) W6 (.slice p5 l5 c5) x5):=O50.out.keep (fun q hq hlt9=>G6.out.block q hlt9 (fun e=>by omega))
   clear G6 F5 S5 B5 X5 A5 b0 b1 b2 b3 b4 b5 b6 b7 b8 b9 g0 g1 g2 g3 g4 g5 g6 g7 g8 g9 O50
   obtain ⟨s0,s1,s2,s3,s4,s5,s6,s7,s8⟩:=bx9 S6.out
   have K7:Hid (Calls Tryz.prog 158 #[.pointer (some ⟨R,0,none⟩),.int .i64 ((nr:Nat):Int),.int .i64 d] W6 (RdO m R sz W6 (fun l v w'=>RxsOwn (fun q=>W6.heap.size≤q) w' v l) (rMany pr false n nr r6))):=CR.out r6 W6 (by omega) A6.out
   cases hP7:rMany pr false n nr r6 with
   | bad er a=>
    rw [hP7] at K7 hEQ
    go_wp2_with fail
    refine K7.out.mono ?_
    rintro e w9 ⟨rfl,hF9⟩
    refine ⟨rfl, ?_⟩
    rw [hEQ.out]
    exact ⟨rfl,F6.out.trans hF9 (fun k e=>Or.inl e)⟩
   | ok x7 r7=>
    rw [hP7,Rd.bind_ok] at hEQ
    rw [hP7] at K7
    have hl7:=SRm.out _ _ _ _ hP7
    clear hP7
    go_wp2_with fail
    refine K7.out.mono ?_
    rintro e w7 ⟨v7,rfl,hQ9,hA9,hF9⟩
    have O70:Hid (RxsOwn (fun q=>N2≤q) w7 v7 x7):=hQ9.mono (fun q hq _=>by omega)
    obtain ⟨p7,c7,rfl, -⟩:=hQ9.at.form
    obtain ⟨l7,el7⟩:∃ y,Hid (x7.length=y):=⟨_,rfl⟩
    rw [el7.out] at O70 ⊢
    clear hQ9
    have F7:Hid (Fr (fun k=>k=R) w w7):=F6.out.trans hF9 (fun k e=>Or.inl e)
    have S7:Hid (w7.heap[n7]? =_):=hF9.heap S6.out (fun e=>by omega)
    have B7:Hid (w7.heap[n7+1]? =_):=hF9.heap B6.out (fun e=>by omega)
    have X7:Hid (w7.heap[w.heap.size]? =_):=hF9.heap X6.out (fun e=>by omega)
    have A7:Hid (RdAt m w7 R sz r7):=hA9
    have y7:N2≤w7.heap.size:=Nat.le_trans y6 hF9.size
    have O7650:Hid (TmsOwn (fun q=>N2≤q) w7 (.slice p5 l5 c5) x5):=O650.out.keep (fun q hq hlt9=>hF9.block q hlt9 (fun e=>by omega))
    clear hF9 hA9 K7 F6 S6 B6 X6 A6 s0 s1 s2 s3 s4 s5 s6 s7 s8 O650
    obtain ⟨b0,b1,b2,b3,b4,b5,b6,b7,b8,b9⟩:=bx10 B7.out
    obtain ⟨g0,g1,g2,g3,g4,g5,g6,g7,g8,g9⟩:=bz10 B7.out
    go_upto_region 13 with fail
    refine wp_world ?_
    intro W8 hW8
    have G8:Hid (Fr (fun k=>k=n7+1) w7 W8):=by rw [hW8];exact (Fr.refl (fun k=>k=n7+1) w7).setCell (p:=⟨n7+1,9,none⟩) (Or.inl rfl) _
    have B8:Hid (W8.heap[n7+1]? =some (.cells #[.int .i64 k,.string ⟨#[]⟩,.int .i64 0,.slice none 0 0,.slice p5 l5 c5,.int .i64 x3.1,.int .i64 x3.2.1,.bool x3.2.2,.slice none 0 0,.slice p7 l7 c7] 29 (0,0))):=by rw [hW8];exact (set_heap (j:=9) B7.out (.slice p7 l7 c7))
    clear hW8
    have F8:Hid (Fr (fun k=>k=R) w W8):=F7.out.trans G8.out (fun k e=>Or.inr (by omega))
    have S8:Hid (W8.heap[n7]? =_):=G8.out.heap S7.out (fun e=>by omega)
    have X8:Hid (W8.heap[w.heap.size]? =_):=G8.out.heap X7.out (fun e=>by omega)
    have A8:Hid (RdAt m W8 R sz r7):=A7.out.fr G8.out (fun k e=>by omega)
    have y8:N2≤W8.heap.size:=Nat.le_trans y7 G8.out.size
    have O87650:Hid (TmsOwn (fun q=>N2≤q) W8 (.slice p5 l5 c5) x5):=O7650.out.keep (fun q hq hlt9=>G8.out.block q hlt9 (fun e=>by omega))
    have O870:Hid (RxsOwn (fun q=>N2≤q) W8 (.slice p7 l7 c7) x7):=O70.out.keep (fun q hq hlt9=>G8.out.block q hlt9 (fun e=>by omega))
    clear G8 F7 S7 B7 X7 A7 b0 b1 b2 b3 b4 b5 b6 b7 b8 b9 g0 g1 g2 g3 g4 g5 g6 g7 g8 g9 O7650 O70
    obtain ⟨s0,s1,s2,s3,s4,s5,s6,s7,s8⟩:=bx9 S8.out
    have K9:Hid (Calls Tryz.prog 159 #[.pointer (some ⟨R,0,none⟩),.int .i64 ((ns:Nat):Int),.bool mm,.int .i64 d] W8 (RdO m R sz W8 (fun l v w'=>FmsOwn (fun q=>W8.heap.size≤q) w' v l) (rMany pf mm n ns r7))):=CF.out r7 W8 (by omega) A8.out
    cases hP9:rMany pf mm n ns r7 with
    | bad er a=>
     rw [hP9] at K9 hEQ
     go_wp2_with fail
     refine K9.out.mono ?_
     rintro e w9 ⟨rfl,hF9⟩
     refine ⟨rfl, ?_⟩
     rw [hEQ.out]
     exact ⟨rfl,F8.out.trans hF9 (fun k e=>Or.inl e)⟩
    | ok x9 r8=>
     rw [hP9,Rd.bind_ok] at hEQ
     rw [hP9] at K9
     clear hP9
     go_wp2_with fail
     refine K9.out.mono ?_
     rintro e w9 ⟨v9,rfl,hQ9,hA9,hF9⟩
     have O90:Hid (FmsOwn (fun q=>N2≤q) w9 v9 x9):=hQ9.mono (fun q hq _=>by omega)
     obtain ⟨p9,c9,rfl, -⟩:=hQ9.at.form
     obtain ⟨l9,el9⟩:∃ y,Hid (x9.length=y):=⟨_,rfl⟩
     rw [el9.out] at O90 ⊢
     clear hQ9
     have F9:Hid (Fr (fun k=>k=R) w w9):=F8.out.trans hF9 (fun k e=>Or.inl e)
     have S9:Hid (w9.heap[n7]? =_):=hF9.heap S8.out (fun e=>by omega)
     have B9:Hid (w9.heap[n7+1]? =_):=hF9.heap B8.out (fun e=>by omega)
     have X9:Hid (w9.heap[w.heap.size]? =_):=hF9.heap X8.out (fun e=>by omega)
     have A9:Hid (RdAt m w9 R sz r8):=hA9
     have y9:N2≤w9.heap.size:=Nat.le_trans y8 hF9.size
     have O987650:Hid (TmsOwn (fun q=>N2≤q) w9 (.slice p5 l5 c5) x5):=O87650.out.keep (fun q hq hlt9=>hF9.block q hlt9 (fun e=>by omega))
     have O9870:Hid (RxsOwn (fun q=>N2≤q) w9 (.slice p7 l7 c7) x7):=O870.out.keep (fun q hq hlt9=>hF9.block q hlt9 (fun e=>by omega))
     clear hF9 hA9 K9 F8 S8 B8 X8 A8 s0 s1 s2 s3 s4 s5 s6 s7 s8 O87650 O870
     obtain ⟨b0,b1,b2,b3,b4,b5,b6,b7,b8,b9⟩:=bx10 B9.out
     obtain ⟨g0,g1,g2,g3,g4,g5,g6,g7,g8,g9⟩:=bz10 B9.out
     go_upto_region 14 with fail
     refine wp_world ?_
     intro W10 hW10
     have G10:Hid (Fr (fun k=>k=n7+1) w9 W10):=by rw [hW10];exact (Fr.refl (fun k=>k=n7+1) w9).setCell (p:=⟨n7+1,8,none⟩) (Or.inl rfl) _
     have B10:Hid (W10.heap[n7+1]? =some (.cells #[.int .i64 k,.string ⟨#[]⟩,.int .i64 0,.slice none 0 0,.slice p5 l5 c5,.int .i64 x3.1,.int .i64 x3.2.1,.bool x3.2.2,.slice p9 l9 c9,.slice p7 l7 c7] 29 (0,0))):=by rw [hW10];exact (set_heap (j:=8) B9.out (.slice p9 l9 c9))
     clear hW10
     have F10:Hid (Fr (fun k=>k=R) w W10):=F9.out.trans G10.out (fun k e=>Or.inr (by omega))
     have S10:Hid (W10.heap[n7]? =_):=G10.out.heap S9.out (fun e=>by omega)
     have X10:Hid (W10.heap[w.heap.size]? =_):=G10.out.heap X9.out (fun e=>by omega)
     have A10:Hid (RdAt m W10 R sz r8):=A9.out.fr G10.out (fun k e=>by omega)
     have y10:N2≤W10.heap.size:=Nat.le_trans y9 G10.out.size
     have O10987650:Hid (TmsOwn (fun q=>N2≤q) W10 (.slice p5 l5 c5) x5):=O987650.out.keep (fun q hq hlt9=>G10.out.block q hlt9 (fun e=>by omega))
     have O109870:Hid (RxsOwn (fun q=>N2≤q) W10 (.slice p7 l7 c7) x7):=O9870.out.keep (fun q hq hlt9=>G10.out.block q hlt9 (fun e=>by omega))
     have O1090:Hid (FmsOwn (fun q=>N2≤q) W10 (.slice p9 l9 c9) x9):=O90.out.keep (fun q hq hlt9=>G10.out.block q hlt9 (fun e=>by omega))
     clear G10 F9 S9 B9 X9 A9 b0 b1 b2 b3 b4 b5 b6 b7 b8 b9 g0 g1 g2 g3 g4 g5 g6 g7 g8 g9 O987650 O9870 O90
     obtain ⟨b0,b1,b2,b3,b4,b5,b6,b7,b8,b9⟩:=bx10 B10.out
     obtain ⟨r0,r1,r2,r3,r4,r5,r6,r7,r8,r9⟩:=bx10 X10.out
     obtain ⟨q0,q1,q2,q3,q4,q5,q6,q7,q8,q9⟩:=bz10 X10.out
     go_wp2
     generalize hW9:World.setCell _ _ _=W9
     have X9:W9.heap[w.heap.size]? =some (.cells #[.int .i64 k,.string ⟨#[]⟩,.int .i64 0,.slice none 0 0,.slice p5 l5 c5,.int .i64 x3.1,.int .i64 x3.2.1,.bool x3.2.2,.slice p9 l9 c9,.slice p7 l7 c7] 29 (0,0)):=by rw [← hW9];exact put10 X10.out
     have F9:Fr (fun k=>k=R) w W9:=by rw [← hW9];exact frp10 F10.out (Or.inr (Nat.le_refl _)) _ _ _ _ _ _ _ _ _ _
     have G9:Fr (fun k=>k=w.heap.size) W10 W9:=by rw [← hW9];exact frp10 (Fr.refl (fun k=>k=w.heap.size) W10) (Or.inl rfl) _ _ _ _ _ _ _ _ _ _
     clear hW9
     obtain ⟨x0,x1,x2,x3,x4,x5,x6,x7,x8,x9⟩:=bx10 X9
     refine bodyPost_ret (by simp [results,Tryz.results121,go_sem,x0,x1,x2,x3,x4,x5,x6,x7,x8,x9];try rfl) rfl ?_
     rw [hEQ.out]
     refine ⟨_,rfl,⟨⟨.slice none 0 0,(.slice p5 l5 c5),(.slice p9 l9 c9),(.slice p7 l7 c7)⟩,rfl, ?_⟩,A10.out.fr G9 (fun k e=>by omega),F9⟩
     exact ⟨⟨⟨rfl,Or.inl ⟨rfl,rfl⟩⟩,(show (0:Nat)≤9223372036854775807 from Nat.zero_le _),fun q hq=>by cases hq⟩,(O10987650.out.keep (w':=W9) (fun q hq hlt9=>G9.block q hlt9 (fun e=>by omega))).mono (fun q hq _=>by omega),(O1090.out.keep (w':=W9) (fun q hq hlt9=>G9.block q hlt9 (fun e=>by omega))).mono (fun q hq _=>by omega),(O109870.out.keep (w':=W9) (fun q hq hlt9=>G9.block q hlt9 (fun e=>by omega))).mono (fun q hq _=>by omega)⟩
theorem nms_own9 {w:World} {N n:Nat} {v:Value} {L:List Value} {vs:List ByteArray} (h:w.ownsRow N 9 1 v n L) (hn:vs.length=n) (hL:vs.map Value.string=L) (hm:vs.length≤9223372036854775807):NmsOwn (fun q=>N≤q) w v vs:=by
 subst hL hn
 exact ⟨own_monoB h (Nat.zero_le _),hm,fun q hq=>(World.ownsRow.lt h q hq).1⟩
theorem own_baseN {w:World} {e size n N:Nat} {v:Value} {L:List Value} (h:w.ownsRow 0 e size v n L) (hp:∀ q,v.ownBlock=some q→N≤q):w.ownsRow N e size v n L:=by
 obtain ⟨h1,h2 | ⟨g,cap,cur,hv,hg,hh⟩⟩:=h
 ·exact ⟨h1,Or.inl h2⟩
 ·exact ⟨h1,Or.inr ⟨g,cap,cur,hv,hp g (by rw [hv];rfl),hh⟩⟩
theorem shaped_ex (m R sz N:Nat) (ts:List (Tok Val)) (d k:Int) (hd:ByteArray) (w:World) (h:RdAt m w R sz ts) (n:Nat) (pt:List (Tok Val)→Rd Tm) (pf:List (Tok Val)→Rd Fm) (pr:List (Tok Val)→Rd Rx) (hst:Shr pt) (hsr:Shr pr) (hN:ts.length≤N) (hk1:3≤k) (hk2:k≤22) (hk:shp k=⟨false,false,true,false,0,0,1,false⟩) (hhd:(⟨(if k=3 then [] else hdF k).toArray⟩:ByteArray)=hd)
  (HT:∀ (kk:Nat) (rr:List (Tok Val)) (W:World),rr.length≤N→RdAt m W R sz rr→Calls Tryz.prog 120 #[.pointer (some ⟨R,0,none⟩),.int .i64 ((kk:Nat):Int),.bool false,.int .i64 d] W (RdO m R sz W (fun l v w'=>TmsOwn (fun q=>W.heap.size≤q) w' v l) (rMany pt false n kk rr)))
  (HR:∀ (kk:Nat) (rr:List (Tok Val)) (W:World),rr.length≤N→RdAt m W R sz rr→Calls Tryz.prog 158 #[.pointer (some ⟨R,0,none⟩),.int .i64 ((kk:Nat):Int),.int .i64 d] W (RdO m R sz W (fun l v w'=>RxsOwn (fun q=>W.heap.size≤q) w' v l) (rMany pr false n kk rr)))
  (HF:∀ (kk:Nat) (more:Bool) (rr:List (Tok Val)) (W:World),rr.length≤N→RdAt m W R sz rr→Calls Tryz.prog 159 #[.pointer (some ⟨R,0,none⟩),.int .i64 ((kk:Nat):Int),.bool more,.int .i64 d] W (RdO m R sz W (fun l v w'=>FmsOwn (fun q=>W.heap.size≤q) w' v l) (rMany pf more n kk rr))):
  Calls Tryz.prog 121 #[.pointer (some ⟨R,0,none⟩),.int .i64 k,.int .i64 d] w (RdO m R sz w (FmV w) (pShaped sz n pt pf pr k ts)):=by
 have hlt:=h.lt
 obtain ⟨RS,hRS⟩:∃ x:Rd Fm,Hid (pShaped sz n pt pf pr k ts=x):=⟨_,rfl⟩
 rw [hRS.out]
 have hEQ:Hid (RS=(rList sz ts).bind fun vs r4=>(rMany pt false n 0 r4).bind fun tms r6=>(rMany pr false n 0 r6).bind fun rx r7=>(rMany pf false n 1 r7).bind fun fs r8=>.ok (.mk k ⟨#[]⟩ 0 ([]++vs) tms 0 0 false fs rx) r8):=by
  show _=_
  rw [← hRS.out]
  unfold pShaped
  rw [hk]
  rfl
 have cS:Hid (∀ W:World,Calls Tryz.prog 35 #[.int .i64 k] W fun e w'=>e=.returned (.agg #[.string hd,.bool false,.bool false,.bool true,.bool false,.int .i64 ((0:Nat):Int),.int .i64 ((0:Nat):Int),.int .i64 ((1:Nat):Int),.bool false])∧Below W.heap.size W w'):=fun W=>by
  have q:=shape_any k W hk1 hk2
  rw [hk] at q
  rw [← hhd]
  exact q
 have CT:Hid (∀ (rr:List (Tok Val)) (W:World),rr.length≤N→RdAt m W R sz rr→Calls Tryz.prog 120 #[.pointer (some ⟨R,0,none⟩),.int .i64 ((0:Nat):Int),.bool false,.int .i64 d] W (RdO m R sz W (fun l v w'=>TmsOwn (fun q=>W.heap.size≤q) w' v l) (rMany pt false n 0 rr))):=fun rr W hl hW=>HT 0 rr W hl hW
 have CR:Hid (∀ (rr:List (Tok Val)) (W:World),rr.length≤N→RdAt m W R sz rr→Calls Tryz.prog 158 #[.pointer (some ⟨R,0,none⟩),.int .i64 ((0:Nat):Int),.int .i64 d] W (RdO m R sz W (fun l v w'=>RxsOwn (fun q=>W.heap.size≤q) w' v l) (rMany pr false n 0 rr))):=fun rr W hl hW=>HR 0 rr W hl hW
 have CF:Hid (∀ (rr:List (Tok Val)) (W:World),rr.length≤N→RdAt m W R sz rr→Calls Tryz.prog 159 #[.pointer (some ⟨R,0,none⟩),.int .i64 ((1:Nat):Int),.bool false,.int .i64 d] W (RdO m R sz W (fun l v w'=>FmsOwn (fun q=>W.heap.size≤q) w' v l) (rMany pf false n 1 rr))):=fun rr W hl hW=>HF 1 false rr W hl hW
 have CI:Hid (∀ (rr:List (Tok Val)) (W:World),RdAt m W R sz rr→Calls Tryz.prog 157 #[.pointer (some ⟨R,0,none⟩)] W (RdO m R sz W (fun iv v _=>v=.agg #[.int .i64 iv.1,.int .i64 iv.2.1,.bool iv.2.2]) (rIv sz rr))):=fun rr W hW=>rival_any m R sz rr W hW
 have STm:Hid (∀ kk ts a r,rMany pt false n kk ts=.ok a r→r.length≤ts.length):=fun kk ts a r e=>sh_many (fun ts a r e=>by have:=hst ts a r e;omega) false n kk ts a r e
 have SRm:Hid (∀ kk ts a r,rMany pr false n kk ts=.ok a r→r.length≤ts.length):=fun kk ts a r e=>sh_many (fun ts a r e=>by have:=hsr ts a r e;omega) false n kk ts a r e
 have CN:Hid (∀ (rr:List (Tok Val)) (W:World),RdAt m W R sz rr→Calls Tryz.prog 154 #[.pointer (some ⟨R,0,none⟩)] W (RdO m R sz W (fun x v _=>v=.string x) (rName sz rr))):=fun rr W hW=>rdname_any m R sz rr W hW
 have CO:Hid (∀ (rr:List (Tok Val)) (W:World),RdAt m W R sz rr→Calls Tryz.prog 155 #[.pointer (some ⟨R,0,none⟩)] W (RdO m R sz W (fun k v _=>v=.int .i64 k) (rOp sz rr))):=fun rr W hW=>roper_any m R sz rr W hW
 have CL:Hid (∀ (rr:List (Tok Val)) (W:World),RdAt m W R sz rr→Calls Tryz.prog 156 #[.pointer (some ⟨R,0,none⟩)] W (RdO m R sz W (fun l v w'=>OwnN W.heap.size v l w') (rList sz rr))):=fun rr W hW=>rdnames_any m R sz rr W hW
 obtain ⟨i0,hi,hz0,hz1,hz2⟩:=info_parts inStA
 clear hRS HT HR HF hst hsr hk hhd
 go_enter Tryz.func121,Tryz.ntmps121
 go_wp2_with fail
 refine (cS.out _).mono ?_
 rintro e w1 ⟨rfl,hb1⟩
 have z1:w.heap.size<w1.heap.size:=by have:=hb1.size;simp at this;omega
 have X1:Hid (w1.heap[w.heap.size]? =some (.cells #[.int .i64 0,.string ⟨#[]⟩,.int .i64 0,.slice none 0 0,.slice none 0 0,.int .i64 0,.int .i64 0,.bool false,.slice none 0 0,.slice none 0 0] 29 (0,0))):=(hb1.block w.heap.size (by simp)).trans (new_box w _)
 have F1:Hid (Fr (fun k=>k=R) w w1):=Fr.of_below (((Below.refl _ _).alloc (Nat.le_refl _) _).trans (hb1.mono (by simp)))
 have A1:Hid (RdAt m w1 R sz ts):=h.below (((Below.refl _ _).alloc (Nat.le_refl _) _).trans (hb1.mono (by simp)))
 clear hb1 cS h
 go_upto_region 2 with fail
 refine wp_world ?_
 intro W2 hW2
 have S2:Hid (W2.heap[w1.heap.size]? =some (.cells #[.string hd,.bool false,.bool false,.bool true,.bool false,.int .i64 ((0:Nat):Int),.int .i64 ((0:Nat):Int),.int .i64 ((1:Nat):Int),.bool false] 82 (0,0))):=by rw [hW2];exact (Below.heap_alloc _ _ _ (by simp)).trans (new_box w1 _)
 have B2:Hid (W2.heap[w1.heap.size+1]? =some (.cells #[.int .i64 k,.string ⟨#[]⟩,.int .i64 0,.slice none 0 0,.slice none 0 0,.int .i64 0,.int .i64 0,.bool false,.slice none 0 0,.slice none 0 0] 29 (0,0))):=by
  rw [hW2]
  have q:=new_box (w1.alloc (.cells #[.string hd,.bool false,.bool false,.bool true,.bool false,.int .i64 ((0:Nat):Int),.int .i64 ((0:Nat):Int),.int .i64 ((1:Nat):Int),.bool false] 82)) (.cells #[.int .i64 k,.string ⟨#[]⟩,.int .i64 0,.slice none 0 0,.slice none 0 0,.int .i64 0,.int .i64 0,.bool false,.slice none 0 0,.slice none 0 0] 29)
  simp only [World.size_alloc] at q
  exact q
 have X2:Hid (W2.heap[w.heap.size]? =some (.cells #[.int .i64 0,.string ⟨#[]⟩,.int .i64 0,.slice none 0 0,.slice none 0 0,.int .i64 0,.int .i64 0,.bool false,.slice none 0 0,.slice none 0 0] 29 (0,0))):=by rw [hW2];exact (((Fr.refl (fun k=>k=R) w1).alloc _).alloc _).heap X1.out (fun e=>by omega)
 have F2:Hid (Fr (fun k=>k=R) w W2):=by rw [hW2];exact (F1.out.alloc _).alloc _
 have A2:Hid (RdAt m W2 R sz ts):=by rw [hW2];exact A1.out.below (((Below.refl w1.heap.size w1).alloc (Nat.le_refl _) _).alloc (by simp) _)
 have zz:w1.heap.size+2=W2.heap.size:=by rw [hW2];simp
 clear hW2 F1 A1 X1
 generalize w1.heap.size=n7 at*
 have ZN:Hid (n7+2=W2.heap.size):=zz
 obtain ⟨N2,hN2⟩:∃ x,Hid (W2.heap.size=x):=⟨_,rfl⟩
 have zz2:n7+2=N2:=by rw [← hN2.out];exact ZN.out
 have y2:N2≤W2.heap.size:=Nat.le_of_eq hN2.out.symm
 clear zz ZN hN2
 obtain ⟨s0,s1,s2,s3,s4,s5,s6,s7,s8⟩:=bx9 S2.out
 obtain ⟨b0,b1,b2,b3,b4,b5,b6,b7,b8,b9⟩:=bx10 B2.out
 obtain ⟨g0,g1,g2,g3,g4,g5,g6,g7,g8,g9⟩:=bz10 B2.out
 have K13:Hid (∀ W:World,Below W2.heap.size W2 W→Calls Tryz.prog 156 #[.pointer (some ⟨R,0,none⟩)] W (RdO m R sz W (fun l v w'=>OwnN W.heap.size v l w') (rList sz ts))):=fun W hW=>CL.out ts W (A2.out.below hW)
 have hPc:Hid ((∃ er a,rList sz ts=.bad er a)∨∃ x r,rList sz ts=.ok x r):=by
  cases hq:rList sz ts with
  | bad er a=>exact Or.inl ⟨er,a,rfl⟩
  | ok x r=>exact Or.inr ⟨x,r,rfl⟩
 have hy13:N2≤W2.heap.size:=y2
 go_upto_region 8 with fail
 go_region_law (first | (go_simp;go_at_call 156;refine (K13.out _ (by go_grown)).mono ?_;intro e w13 q;rcases hPc.out with ⟨er,a,hP⟩ | ⟨x13,r4,hP⟩;(·(rw [hP] at q;obtain ⟨rfl,hF9⟩:=q;refine ⟨rfl, ?_⟩;rw [hEQ.out,hP];exact ⟨rfl,(F2.out.drew).trans hF9 (fun k e=>Or.inl e)⟩));rw [hP] at q;obtain ⟨v9,rfl,hO9,hA9,hF9⟩:=q;obtain ⟨p9,c9,rfl, -⟩:=hO9.cap;have hxl:=list_few A2.out.many hP;have z9:N2≤w13.heap.size:=Nat.le_trans hy13 hF9.size;have B9:Hid (w13.heap[n7+1]? =some (.cells #[.int .i64 k,.string ⟨#[]⟩,.int .i64 0,.slice none 0 0,.slice none 0 0,.int .i64 0,.int .i64 0,.bool false,.slice none 0 0,.slice none 0 0] 29 (0,0))):=hF9.heap (show W2.drew.heap[n7+1]? =_ from B2.out) (fun e=>by omega);have b39:=(bx10 B9.out).2.2.2.1;have h71:n7+1<w13.heap.size:=(by omega)) | (refine step_append_srcQ rfl (.tmp 33) (.tmp 35) 22 rfl N2 9 i0 (.string ByteArray.empty) 1 16 Tryz.underlying22 hi hz0 hz1 hz2 rfl (by decide) (.slice none 0 0) 0 [] (by simp [Act.eval]) ⟨rfl,Or.inl ⟨rfl,rfl⟩⟩ (.slice p9 x13.length c9) x13.length (x13.map Value.string) (by simp [Act.eval]) (src_names hO9) (by intro u hu;obtain ⟨s, -,rfl⟩:=List.mem_map.1 hu;rfl) (by unfold maxLen;omega) (by omega) (by omega) (fun v' w9 h2 h3=> ?_);have G9:Hid (Fr (fun _=>False) w13 w9):=(Fr.refl (fun _=>False) w13).grown h3 (fun k e=>by cases e);have C9:Hid (w9.heap[n7+1]? =some (.cells #[.int .i64 k,.string ⟨#[]⟩,.int .i64 0,.slice none 0 0,.slice none 0 0,.int .i64 0,.int .i64 0,.bool false,.slice none 0 0,.slice none 0 0] 29 (0,0))):=G9.out.heap B9.out (fun q=>q);have O9:Hid (w9.ownsRow N2 9 1 v' x13.length (x13.map Value.string)):=(by have q:=h2;unfold Hid;simpa using q);obtain ⟨pv13,cv13,rfl⟩:=row_form O9.out;have b49:=(bx10 C9.out).2.2.2.1;have f49:=(bz10 C9.out).2.2.2.1;clear h2 h3))
 all_goals (
  rw [hP,Rd.bind_ok] at hEQ
  have hl13:=sh_list sz _ _ _ hP
  have S9:Hid (w9.heap[n7]? =_):=G9.out.heap (hF9.heap (show W2.drew.heap[n7]? =_ from S2.out) (fun e=>by omega)) (fun q=>q)
  have X9:Hid (w9.heap[w.heap.size]? =_):=G9.out.heap (hF9.heap (show W2.drew.heap[w.heap.size]? =_ from X2.out) (fun e=>by omega)) (fun q=>q)
  have F9:Hid (Fr (fun k=>k=R) w w9):=((F2.out.drew).trans hF9 (fun k e=>Or.inl e)).trans G9.out (fun k q=>q.elim)
  have A9:Hid (RdAt m w9 R sz r4):=hA9.fr G9.out (fun k q=>q.elim)
  have y9:N2≤w9.heap.size:=Nat.le_trans z9 G9.out.size
  have M9:Hid (NmsOwn (fun q=>N2≤q) w9 (.slice pv13 x13.length cv13) x13):=nms_own9 O9.out (by first | rfl | (simp;done) | (simp;omega)) (by first | rfl | simp) (by first | omega | (simp;done) | (simp;omega))
  clear hP hPc K13 S2 X2 F2 A2 B2 B9 hF9 hA9 O9 G9 b0 b1 b2 b3 b4 b5 b6 b7 b8 b9 g0 g1 g2 g3 g4 g5 g6 g7 g8 g9 s0 s1 s2 s3 s4 s5 s6 s7 s8 b39 hO9
  go_upto_region 9 with fail
  refine wp_world ?_
  intro W14 hW14
  have G14:Hid (Fr (fun k=>k=n7+1) w9 W14):=by rw [hW14];exact (Fr.refl (fun k=>k=n7+1) w9).setCell (p:=⟨n7+1,3,none⟩) (Or.inl rfl) _
  have B14:Hid (W14.heap[n7+1]? =some (.cells #[.int .i64 k,.string ⟨#[]⟩,.int .i64 0,.slice pv13 x13.length cv13,.slice none 0 0,.int .i64 0,.int .i64 0,.bool false,.slice none 0 0,.slice none 0 0] 29 (0,0))):=by rw [hW14];exact set_heap (j:=3) C9.out (.slice pv13 x13.length cv13)
  clear hW14
  have F14:Hid (Fr (fun k=>k=R) w W14):=F9.out.trans G14.out (fun k e=>Or.inr (by omega))
  have S14:Hid (W14.heap[n7]? =_):=G14.out.heap S9.out (fun e=>by omega)
  have X14:Hid (W14.heap[w.heap.size]? =_):=G14.out.heap X9.out (fun e=>by omega)
  have A14:Hid (RdAt m W14 R sz r4):=A9.out.fr G14.out (fun k e=>by omega)
  have y14:N2≤W14.heap.size:=Nat.le_trans y9 G14.out.size
  have M14:Hid (NmsOwn (fun q=>N2≤q) W14 (.slice pv13 x13.length cv13) x13):=M9.out.keep (fun q hq hlt9=>G14.out.block q hlt9 (fun e=>by omega))
  clear S9 X9 F9 A9 M9 C9 b49 f49 G14 y9 z9
  obtain ⟨s0,s1,s2,s3,s4,s5,s6,s7,s8⟩:=bx9 S14.out
  have K15:Hid (Calls Tryz.prog 120 #[.pointer (some ⟨R,0,none⟩),.int .i64 ((0:Nat):Int),.bool false,.int .i64 d] W14 (RdO m R sz W14 (fun l v w'=>TmsOwn (fun q=>W14.heap.size≤q) w' v l) (rMany pt false n 0 r4))):=CT.out r4 W14 (by omega) A14.out
  cases hP15:rMany pt false n 0 r4 with
  | bad er a=>
   rw [hP15] at K15 hEQ
   go_wp2_with fail
   refine K15.out.mono ?_
   rintro e w9 ⟨rfl,hF9⟩
   refine ⟨rfl, ?_⟩
   rw [hEQ.out]
   exact ⟨rfl,F14.out.trans hF9 (fun k e=>Or.inl e)⟩
  | ok x15 r6=>
   rw [hP15,Rd.bind_ok] at hEQ
   rw [hP15] at K15
   have hl15:=STm.out _ _ _ _ hP15
   clear hP15
   go_wp2_with fail
   refine K15.out.mono ?_
   rintro e w15 ⟨v15,rfl,hQ9,hA9,hF9⟩
   have O150:Hid (TmsOwn (fun q=>N2≤q) w15 v15 x15):=hQ9.mono (fun q hq _=>by omega)
   obtain ⟨p15,c15,rfl, -⟩:=hQ9.at.form
   obtain ⟨l15,el15⟩:∃ y,Hid (x15.length=y):=⟨_,rfl⟩
   rw [el15.out] at O150 ⊢
   clear hQ9
   have F15:Hid (Fr (fun k=>k=R) w w15):=F14.out.trans hF9 (fun k e=>Or.inl e)
   have S15:Hid (w15.heap[n7]? =_):=hF9.heap S14.out (fun e=>by omega)
   have B15:Hid (w15.heap[n7+1]? =_):=hF9.heap B14.out (fun e=>by omega)
   have X15:Hid (w15.heap[w.heap.size]? =_):=hF9.heap X14.out (fun e=>by omega)
   have A15:Hid (RdAt m w15 R sz r6):=hA9
   have y15:N2≤w15.heap.size:=Nat.le_trans y14 hF9.size
   have M1514:Hid (NmsOwn (fun q=>N2≤q) w15 (.slice pv13 x13.length cv13) x13):=M14.out.keep (fun q hq hlt9=>hF9.block q hlt9 (fun e=>by omega))
   clear hF9 hA9 K15 F14 S14 B14 X14 A14 s0 s1 s2 s3 s4 s5 s6 s7 s8 M14
   obtain ⟨b0,b1,b2,b3,b4,b5,b6,b7,b8,b9⟩:=bx10 B15.out
   obtain ⟨g0,g1,g2,g3,g4,g5,g6,g7,g8,g9⟩:=bz10 B15.out
   go_upto_region 12 with fail
   refine wp_world ?_
   intro W16 hW16
   have G16:Hid (Fr (fun k=>k=n7+1) w15 W16):=by rw [hW16];exact (Fr.refl (fun k=>k=n7+1) w15).setCell (p:=⟨n7+1,4,none⟩) (Or.inl rfl) _
   have B16:Hid (W16.heap[n7+1]? =some (.cells #[.int .i64 k,.string ⟨#[]⟩,.int .i64 0,.slice pv13 x13.length cv13,.slice p15 l15 c15,.int .i64 0,.int .i64 0,.bool false,.slice none 0 0,.slice none 0 0] 29 (0,0))):=by rw [hW16];exact (set_heap (j:=4) B15.out (.slice p15 l15 c15))
   clear hW16
   have F16:Hid (Fr (fun k=>k=R) w W16):=F15.out.trans G16.out (fun k e=>Or.inr (by omega))
   have S16:Hid (W16.heap[n7]? =_):=G16.out.heap S15.out (fun e=>by omega)
   have X16:Hid (W16.heap[w.heap.size]? =_):=G16.out.heap X15.out (fun e=>by omega)
   have A16:Hid (RdAt m W16 R sz r6):=A15.out.fr G16.out (fun k e=>by omega)
   have y16:N2≤W16.heap.size:=Nat.le_trans y15 G16.out.size
   have M161514:Hid (NmsOwn (fun q=>N2≤q) W16 (.slice pv13 x13.length cv13) x13):=M1514.out.keep (fun q hq hlt9=>G16.out.block q hlt9 (fun e=>by omega))
   have O16150:Hid (TmsOwn (fun q=>N2≤q) W16 (.slice p15 l15 c15) x15):=O150.out.keep (fun q hq hlt9=>G16.out.block q hlt9 (fun e=>by omega))
   clear G16 F15 S15 B15 X15 A15 b0 b1 b2 b3 b4 b5 b6 b7 b8 b9 g0 g1 g2 g3 g4 g5 g6 g7 g8 g9 M1514 O150
   obtain ⟨s0,s1,s2,s3,s4,s5,s6,s7,s8⟩:=bx9 S16.out
   have K17:Hid (Calls Tryz.prog 158 #[.pointer (some ⟨R,0,none⟩),.int .i64 ((0:Nat):Int),.int .i64 d] W16 (RdO m R sz W16 (fun l v w'=>RxsOwn (fun q=>W16.heap.size≤q) w' v l) (rMany pr false n 0 r6))):=CR.out r6 W16 (by omega) A16.out
   cases hP17:rMany pr false n 0 r6 with
   | bad er a=>
    rw [hP17] at K17 hEQ
    go_wp2_with fail
    refine K17.out.mono ?_
    rintro e w9 ⟨rfl,hF9⟩
    refine ⟨rfl, ?_⟩
    rw [hEQ.out]
    exact ⟨rfl,F16.out.trans hF9 (fun k e=>Or.inl e)⟩
   | ok x17 r7=>
    rw [hP17,Rd.bind_ok] at hEQ
    rw [hP17] at K17
    have hl17:=SRm.out _ _ _ _ hP17
    clear hP17
    go_wp2_with fail
    refine K17.out.mono ?_
    rintro e w17 ⟨v17,rfl,hQ9,hA9,hF9⟩
    have O170:Hid (RxsOwn (fun q=>N2≤q) w17 v17 x17):=hQ9.mono (fun q hq _=>by omega)
    obtain ⟨p17,c17,rfl, -⟩:=hQ9.at.form
    obtain ⟨l17,el17⟩:∃ y,Hid (x17.length=y):=⟨_,rfl⟩
    rw [el17.out] at O170 ⊢
    clear hQ9
    have F17:Hid (Fr (fun k=>k=R) w w17):=F16.out.trans hF9 (fun k e=>Or.inl e)
    have S17:Hid (w17.heap[n7]? =_):=hF9.heap S16.out (fun e=>by omega)
    have B17:Hid (w17.heap[n7+1]? =_):=hF9.heap B16.out (fun e=>by omega)
    have X17:Hid (w17.heap[w.heap.size]? =_):=hF9.heap X16.out (fun e=>by omega)
    have A17:Hid (RdAt m w17 R sz r7):=hA9
    have y17:N2≤w17.heap.size:=Nat.le_trans y16 hF9.size
    have M17161514:Hid (NmsOwn (fun q=>N2≤q) w17 (.slice pv13 x13.length cv13) x13):=M161514.out.keep (fun q hq hlt9=>hF9.block q hlt9 (fun e=>by omega))
    have O1716150:Hid (TmsOwn (fun q=>N2≤q) w17 (.slice p15 l15 c15) x15):=O16150.out.keep (fun q hq hlt9=>hF9.block q hlt9 (fun e=>by omega))
    clear hF9 hA9 K17 F16 S16 B16 X16 A16 s0 s1 s2 s3 s4 s5 s6 s7 s8 M161514 O16150
    obtain ⟨b0,b1,b2,b3,b4,b5,b6,b7,b8,b9⟩:=bx10 B17.out
    obtain ⟨g0,g1,g2,g3,g4,g5,g6,g7,g8,g9⟩:=bz10 B17.out
    go_upto_region 13 with fail
    refine wp_world ?_
    intro W18 hW18
    have G18:Hid (Fr (fun k=>k=n7+1) w17 W18):=by rw [hW18];exact (Fr.refl (fun k=>k=n7+1) w17).setCell (p:=⟨n7+1,9,none⟩) (Or.inl rfl) _
    have B18:Hid (W18.heap[n7+1]? =some (.cells #[.int .i64 k,.string ⟨#[]⟩,.int .i64 0,.slice pv13 x13.length cv13,.slice p15 l15 c15,.int .i64 0,.int .i64 0,.bool false,.slice none 0 0,.slice p17 l17 c17] 29 (0,0))):=by rw [hW18];exact (set_heap (j:=9) B17.out (.slice p17 l17 c17))
    clear hW18
    have F18:Hid (Fr (fun k=>k=R) w W18):=F17.out.trans G18.out (fun k e=>Or.inr (by omega))
    have S18:Hid (W18.heap[n7]? =_):=G18.out.heap S17.out (fun e=>by omega)
    have X18:Hid (W18.heap[w.heap.size]? =_):=G18.out.heap X17.out (fun e=>by omega)
    have A18:Hid (RdAt m W18 R sz r7):=A17.out.fr G18.out (fun k e=>by omega)
    have y18:N2≤W18.heap.size:=Nat.le_trans y17 G18.out.size
    have M1817161514:Hid (NmsOwn (fun q=>N2≤q) W18 (.slice pv13 x13.length cv13) x13):=M17161514.out.keep (fun q hq hlt9=>G18.out.block q hlt9 (fun e=>by omega))
    have O181716150:Hid (TmsOwn (fun q=>N2≤q) W18 (.slice p15 l15 c15) x15):=O1716150.out.keep (fun q hq hlt9=>G18.out.block q hlt9 (fun e=>by omega))
    have O18170:Hid (RxsOwn (fun q=>N2≤q) W18 (.slice p17 l17 c17) x17):=O170.out.keep (fun q hq hlt9=>G18.out.block q hlt9 (fun e=>by omega))
    clear G18 F17 S17 B17 X17 A17 b0 b1 b2 b3 b4 b5 b6 b7 b8 b9 g0 g1 g2 g3 g4 g5 g6 g7 g8 g9 M17161514 O1716150 O170
    obtain ⟨s0,s1,s2,s3,s4,s5,s6,s7,s8⟩:=bx9 S18.out
    have K19:Hid (Calls Tryz.prog 159 #[.pointer (some ⟨R,0,none⟩),.int .i64 ((1:Nat):Int),.bool false,.int .i64 d] W18 (RdO m R sz W18 (fun l v w'=>FmsOwn (fun q=>W18.heap.size≤q) w' v l) (rMany pf false n 1 r7))):=CF.out r7 W18 (by omega) A18.out
    cases hP19:rMany pf false n 1 r7 with
    | bad er a=>
     rw [hP19] at K19 hEQ
     go_wp2_with fail
     refine K19.out.mono ?_
     rintro e w9 ⟨rfl,hF9⟩
     refine ⟨rfl, ?_⟩
     rw [hEQ.out]
     exact ⟨rfl,F18.out.trans hF9 (fun k e=>Or.inl e)⟩
    | ok x19 r8=>
     rw [hP19,Rd.bind_ok] at hEQ
     rw [hP19] at K19
     clear hP19
     go_wp2_with fail
     refine K19.out.mono ?_
     rintro e w19 ⟨v19,rfl,hQ9,hA9,hF9⟩
     have O190:Hid (FmsOwn (fun q=>N2≤q) w19 v19 x19):=hQ9.mono (fun q hq _=>by omega)
     obtain ⟨p19,c19,rfl, -⟩:=hQ9.at.form
     obtain ⟨l19,el19⟩:∃ y,Hid (x19.length=y):=⟨_,rfl⟩
     rw [el19.out] at O190 ⊢
     clear hQ9
     have F19:Hid (Fr (fun k=>k=R) w w19):=F18.out.trans hF9 (fun k e=>Or.inl e)
     have S19:Hid (w19.heap[n7]? =_):=hF9.heap S18.out (fun e=>by omega)
     have B19:Hid (w19.heap[n7+1]? =_):=hF9.heap B18.out (fun e=>by omega)
     have X19:Hid (w19.heap[w.heap.size]? =_):=hF9.heap X18.out (fun e=>by omega)
     have A19:Hid (RdAt m w19 R sz r8):=hA9
     have y19:N2≤w19.heap.size:=Nat.le_trans y18 hF9.size
     have M191817161514:Hid (NmsOwn (fun q=>N2≤q) w19 (.slice pv13 x13.length cv13) x13):=M1817161514.out.keep (fun q hq hlt9=>hF9.block q hlt9 (fun e=>by omega))
     have O19181716150:Hid (TmsOwn (fun q=>N2≤q) w19 (.slice p15 l15 c15) x15):=O181716150.out.keep (fun q hq hlt9=>hF9.block q hlt9 (fun e=>by omega))
     have O1918170:Hid (RxsOwn (fun q=>N2≤q) w19 (.slice p17 l17 c17) x17):=O18170.out.keep (fun q hq hlt9=>hF9.block q hlt9 (fun e=>by omega))
     clear hF9 hA9 K19 F18 S18 B18 X18 A18 s0 s1 s2 s3 s4 s5 s6 s7 s8 M1817161514 O181716150 O18170
     obtain ⟨b0,b1,b2,b3,b4,b5,b6,b7,b8,b9⟩:=bx10 B19.out
     obtain ⟨g0,g1,g2,g3,g4,g5,g6,g7,g8,g9⟩:=bz10 B19.out
     go_upto_region 14 with fail
     refine wp_world ?_
     intro W20 hW20
     have G20:Hid (Fr (fun k=>k=n7+1) w19 W20):=by rw [hW20];exact (Fr.refl (fun k=>k=n7+1) w19).setCell (p:=⟨n7+1,8,none⟩) (Or.inl rfl) _
     have B20:Hid (W20.heap[n7+1]? =some (.cells #[.int .i64 k,.string ⟨#[]⟩,.int .i64 0,.slice pv13 x13.length cv13,.slice p15 l15 c15,.int .i64 0,.int .i64 0,.bool false,.slice p19 l19 c19,.slice p17 l17 c17] 29 (0,0))):=by rw [hW20];exact (set_heap (j:=8) B19.out (.slice p19 l19 c19))
     clear hW20
     have F20:Hid (Fr (fun k=>k=R) w W20):=F19.out.trans G20.out (fun k e=>Or.inr (by omega))
     have S20:Hid (W20.heap[n7]? =_):=G20.out.heap S19.out (fun e=>by omega)
     have X20:Hid (W20.heap[w.heap.size]? =_):=G20.out.heap X19.out (fun e=>by omega)
     have A20:Hid (RdAt m W20 R sz r8):=A19.out.fr G20.out (fun k e=>by omega)
     have y20:N2≤W20.heap.size:=Nat.le_trans y19 G20.out.size
     have M20191817161514:Hid (NmsOwn (fun q=>N2≤q) W20 (.slice pv13 x13.length cv13) x13):=M191817161514.out.keep (fun q hq hlt9=>G20.out.block q hlt9 (fun e=>by omega))
     have O2019181716150:Hid (TmsOwn (fun q=>N2≤q) W20 (.slice p15 l15 c15) x15):=O19181716150.out.keep (fun q hq hlt9=>G20.out.block q hlt9 (fun e=>by omega))
     have O201918170:Hid (RxsOwn (fun q=>N2≤q) W20 (.slice p17 l17 c17) x17):=O1918170.out.keep (fun q hq hlt9=>G20.out.block q hlt9 (fun e=>by omega))
     have O20190:Hid (FmsOwn (fun q=>N2≤q) W20 (.slice p19 l19 c19) x19):=O190.out.keep (fun q hq hlt9=>G20.out.block q hlt9 (fun e=>by omega))
     clear G20 F19 S19 B19 X19 A19 b0 b1 b2 b3 b4 b5 b6 b7 b8 b9 g0 g1 g2 g3 g4 g5 g6 g7 g8 g9 M191817161514 O19181716150 O1918170 O190
     obtain ⟨b0,b1,b2,b3,b4,b5,b6,b7,b8,b9⟩:=bx10 B20.out
     obtain ⟨r0,r1,r2,r3,r4,r5,r6,r7,r8,r9⟩:=bx10 X20.out
     obtain ⟨q0,q1,q2,q3,q4,q5,q6,q7,q8,q9⟩:=bz10 X20.out
     go_wp2
     generalize hW9:World.setCell _ _ _=W9
     have X9:W9.heap[w.heap.size]? =some (.cells #[.int .i64 k,.string ⟨#[]⟩,.int .i64 0,.slice pv13 x13.length cv13,.slice p15 l15 c15,.int .i64 0,.int .i64 0,.bool false,.slice p19 l19 c19,.slice p17 l17 c17] 29 (0,0)):=by rw [← hW9];exact put10 X20.out
     have F9:Fr (fun k=>k=R) w W9:=by rw [← hW9];exact frp10 F20.out (Or.inr (Nat.le_refl _)) _ _ _ _ _ _ _ _ _ _
     have G9:Fr (fun k=>k=w.heap.size) W20 W9:=by rw [← hW9];exact frp10 (Fr.refl (fun k=>k=w.heap.size) W20) (Or.inl rfl) _ _ _ _ _ _ _ _ _ _
     clear hW9
     obtain ⟨oc0,oc1,oc2,oc3,oc4,oc5,oc6,oc7,oc8,oc9⟩:=bx10 X9
     refine bodyPost_ret (by simp [results,Tryz.results121,go_sem,oc0,oc1,oc2,oc3,oc4,oc5,oc6,oc7,oc8,oc9];try rfl) rfl ?_
     rw [hEQ.out]
     exact ⟨_,rfl,⟨⟨(.slice pv13 x13.length cv13),(.slice p15 l15 c15),(.slice p19 l19 c19),(.slice p17 l17 c17)⟩,rfl,⟨(M20191817161514.out.keep (w':=W9) (fun q hq hlt9=>G9.block q hlt9 (fun e=>by omega))).mono (fun q hq _=>by omega),(O2019181716150.out.keep (w':=W9) (fun q hq hlt9=>G9.block q hlt9 (fun e=>by omega))).mono (fun q hq _=>by omega),(O20190.out.keep (w':=W9) (fun q hq hlt9=>G9.block q hlt9 (fun e=>by omega))).mono (fun q hq _=>by omega),(O201918170.out.keep (w':=W9) (fun q hq hlt9=>G9.block q hlt9 (fun e=>by omega))).mono (fun q hq _=>by omega)⟩⟩,A20.out.fr G9 (fun k e=>by omega),F9⟩)
theorem shaped_let (m R sz N:Nat) (ts:List (Tok Val)) (d k:Int) (hd:ByteArray) (w:World) (h:RdAt m w R sz ts) (n:Nat) (pt:List (Tok Val)→Rd Tm) (pf:List (Tok Val)→Rd Fm) (pr:List (Tok Val)→Rd Rx) (hst:Shr pt) (hsr:Shr pr) (hN:ts.length≤N) (hk1:3≤k) (hk2:k≤22) (hk:shp k=⟨true,false,true,false,0,0,2,false⟩) (hhd:(⟨(if k=3 then [] else hdF k).toArray⟩:ByteArray)=hd)
  (HT:∀ (kk:Nat) (rr:List (Tok Val)) (W:World),rr.length≤N→RdAt m W R sz rr→Calls Tryz.prog 120 #[.pointer (some ⟨R,0,none⟩),.int .i64 ((kk:Nat):Int),.bool false,.int .i64 d] W (RdO m R sz W (fun l v w'=>TmsOwn (fun q=>W.heap.size≤q) w' v l) (rMany pt false n kk rr)))
  (HR:∀ (kk:Nat) (rr:List (Tok Val)) (W:World),rr.length≤N→RdAt m W R sz rr→Calls Tryz.prog 158 #[.pointer (some ⟨R,0,none⟩),.int .i64 ((kk:Nat):Int),.int .i64 d] W (RdO m R sz W (fun l v w'=>RxsOwn (fun q=>W.heap.size≤q) w' v l) (rMany pr false n kk rr)))
  (HF:∀ (kk:Nat) (more:Bool) (rr:List (Tok Val)) (W:World),rr.length≤N→RdAt m W R sz rr→Calls Tryz.prog 159 #[.pointer (some ⟨R,0,none⟩),.int .i64 ((kk:Nat):Int),.bool more,.int .i64 d] W (RdO m R sz W (fun l v w'=>FmsOwn (fun q=>W.heap.size≤q) w' v l) (rMany pf more n kk rr))):
  Calls Tryz.prog 121 #[.pointer (some ⟨R,0,none⟩),.int .i64 k,.int .i64 d] w (RdO m R sz w (FmV w) (pShaped sz n pt pf pr k ts)):=by
 have hlt:=h.lt
 obtain ⟨RS,hRS⟩:∃ x:Rd Fm,Hid (pShaped sz n pt pf pr k ts=x):=⟨_,rfl⟩
 rw [hRS.out]
 have hEQ:Hid (RS=(rName sz ts).bind fun nm r1=>(rList sz r1).bind fun vs r4=>(rMany pt false n 0 r4).bind fun tms r6=>(rMany pr false n 0 r6).bind fun rx r7=>(rMany pf false n 2 r7).bind fun fs r8=>.ok (.mk k nm 0 ([]++vs) tms 0 0 false fs rx) r8):=by
  show _=_
  rw [← hRS.out]
  unfold pShaped
  rw [hk]
  rfl
 have cS:Hid (∀ W:World,Calls Tryz.prog 35 #[.int .i64 k] W fun e w'=>e=.returned (.agg #[.string hd,.bool true,.bool false,.bool true,.bool false,.int .i64 ((0:Nat):Int),.int .i64 ((0:Nat):Int),.int .i64 ((2:Nat):Int),.bool false])∧Below W.heap.size W w'):=fun W=>by
  have q:=shape_any k W hk1 hk2
  rw [hk] at q
  rw [← hhd]
  exact q
 have CT:Hid (∀ (rr:List (Tok Val)) (W:World),rr.length≤N→RdAt m W R sz rr→Calls Tryz.prog 120 #[.pointer (some ⟨R,0,none⟩),.int .i64 ((0:Nat):Int),.bool false,.int .i64 d] W (RdO m R sz W (fun l v w'=>TmsOwn (fun q=>W.heap.size≤q) w' v l) (rMany pt false n 0 rr))):=fun rr W hl hW=>HT 0 rr W hl hW
 have CR:Hid (∀ (rr:List (Tok Val)) (W:World),rr.length≤N→RdAt m W R sz rr→Calls Tryz.prog 158 #[.pointer (some ⟨R,0,none⟩),.int .i64 ((0:Nat):Int),.int .i64 d] W (RdO m R sz W (fun l v w'=>RxsOwn (fun q=>W.heap.size≤q) w' v l) (rMany pr false n 0 rr))):=fun rr W hl hW=>HR 0 rr W hl hW
 have CF:Hid (∀ (rr:List (Tok Val)) (W:World),rr.length≤N→RdAt m W R sz rr→Calls Tryz.prog 159 #[.pointer (some ⟨R,0,none⟩),.int .i64 ((2:Nat):Int),.bool false,.int .i64 d] W (RdO m R sz W (fun l v w'=>FmsOwn (fun q=>W.heap.size≤q) w' v l) (rMany pf false n 2 rr))):=fun rr W hl hW=>HF 2 false rr W hl hW
 have CI:Hid (∀ (rr:List (Tok Val)) (W:World),RdAt m W R sz rr→Calls Tryz.prog 157 #[.pointer (some ⟨R,0,none⟩)] W (RdO m R sz W (fun iv v _=>v=.agg #[.int .i64 iv.1,.int .i64 iv.2.1,.bool iv.2.2]) (rIv sz rr))):=fun rr W hW=>rival_any m R sz rr W hW
 have STm:Hid (∀ kk ts a r,rMany pt false n kk ts=.ok a r→r.length≤ts.length):=fun kk ts a r e=>sh_many (fun ts a r e=>by have:=hst ts a r e;omega) false n kk ts a r e
 have SRm:Hid (∀ kk ts a r,rMany pr false n kk ts=.ok a r→r.length≤ts.length):=fun kk ts a r e=>sh_many (fun ts a r e=>by have:=hsr ts a r e;omega) false n kk ts a r e
 have CN:Hid (∀ (rr:List (Tok Val)) (W:World),RdAt m W R sz rr→Calls Tryz.prog 154 #[.pointer (some ⟨R,0,none⟩)] W (RdO m R sz W (fun x v _=>v=.string x) (rName sz rr))):=fun rr W hW=>rdname_any m R sz rr W hW
 have CO:Hid (∀ (rr:List (Tok Val)) (W:World),RdAt m W R sz rr→Calls Tryz.prog 155 #[.pointer (some ⟨R,0,none⟩)] W (RdO m R sz W (fun k v _=>v=.int .i64 k) (rOp sz rr))):=fun rr W hW=>roper_any m R sz rr W hW
 have CL:Hid (∀ (rr:List (Tok Val)) (W:World),RdAt m W R sz rr→Calls Tryz.prog 156 #[.pointer (some ⟨R,0,none⟩)] W (RdO m R sz W (fun l v w'=>OwnN W.heap.size v l w') (rList sz rr))):=fun rr W hW=>rdnames_any m R sz rr W hW
 obtain ⟨i0,hi,hz0,hz1,hz2⟩:=info_parts inStA
 clear hRS HT HR HF hst hsr hk hhd
 go_enter Tryz.func121,Tryz.ntmps121
 go_wp2_with fail
 refine (cS.out _).mono ?_
 rintro e w1 ⟨rfl,hb1⟩
 have z1:w.heap.size<w1.heap.size:=by have:=hb1.size;simp at this;omega
 have X1:Hid (w1.heap[w.heap.size]? =some (.cells #[.int .i64 0,.string ⟨#[]⟩,.int .i64 0,.slice none 0 0,.slice none 0 0,.int .i64 0,.int .i64 0,.bool false,.slice none 0 0,.slice none 0 0] 29 (0,0))):=(hb1.block w.heap.size (by simp)).trans (new_box w _)
 have F1:Hid (Fr (fun k=>k=R) w w1):=Fr.of_below (((Below.refl _ _).alloc (Nat.le_refl _) _).trans (hb1.mono (by simp)))
 have A1:Hid (RdAt m w1 R sz ts):=h.below (((Below.refl _ _).alloc (Nat.le_refl _) _).trans (hb1.mono (by simp)))
 clear hb1 cS h
 go_upto_region 2 with fail
 refine wp_world ?_
 intro W2 hW2
 have S2:Hid (W2.heap[w1.heap.size]? =some (.cells #[.string hd,.bool true,.bool false,.bool true,.bool false,.int .i64 ((0:Nat):Int),.int .i64 ((0:Nat):Int),.int .i64 ((2:Nat):Int),.bool false] 82 (0,0))):=by rw [hW2];exact (Below.heap_alloc _ _ _ (by simp)).trans (new_box w1 _)
 have B2:Hid (W2.heap[w1.heap.size+1]? =some (.cells #[.int .i64 k,.string ⟨#[]⟩,.int .i64 0,.slice none 0 0,.slice none 0 0,.int .i64 0,.int .i64 0,.bool false,.slice none 0 0,.slice none 0 0] 29 (0,0))):=by
  rw [hW2]
  have q:=new_box (w1.alloc (.cells #[.string hd,.bool true,.bool false,.bool true,.bool false,.int .i64 ((0:Nat):Int),.int .i64 ((0:Nat):Int),.int .i64 ((2:Nat):Int),.bool false] 82)) (.cells #[.int .i64 k,.string ⟨#[]⟩,.int .i64 0,.slice none 0 0,.slice none 0 0,.int .i64 0,.int .i64 0,.bool false,.slice none 0 0,.slice none 0 0] 29)
  simp only [World.size_alloc] at q
  exact q
 have X2:Hid (W2.heap[w.heap.size]? =some (.cells #[.int .i64 0,.string ⟨#[]⟩,.int .i64 0,.slice none 0 0,.slice none 0 0,.int .i64 0,.int .i64 0,.bool false,.slice none 0 0,.slice none 0 0] 29 (0,0))):=by rw [hW2];exact (((Fr.refl (fun k=>k=R) w1).alloc _).alloc _).heap X1.out (fun e=>by omega)
 have F2:Hid (Fr (fun k=>k=R) w W2):=by rw [hW2];exact (F1.out.alloc _).alloc _
 have A2:Hid (RdAt m W2 R sz ts):=by rw [hW2];exact A1.out.below (((Below.refl w1.heap.size w1).alloc (Nat.le_refl _) _).alloc (by simp) _)
 have zz:w1.heap.size+2=W2.heap.size:=by rw [hW2];simp
 clear hW2 F1 A1 X1
 generalize w1.heap.size=n7 at*
 have ZN:Hid (n7+2=W2.heap.size):=zz
 obtain ⟨N2,hN2⟩:∃ x,Hid (W2.heap.size=x):=⟨_,rfl⟩
 have zz2:n7+2=N2:=by rw [← hN2.out];exact ZN.out
 have y2:N2≤W2.heap.size:=Nat.le_of_eq hN2.out.symm
 clear zz ZN hN2
 obtain ⟨s0,s1,s2,s3,s4,s5,s6,s7,s8⟩:=bx9 S2.out
 have K13:Hid (Calls Tryz.prog 154 #[.pointer (some ⟨R,0,none⟩)] W2 (RdO m R sz W2 (fun x v _=>v=.string x) (rName sz ts))):=CN.out ts W2 A2.out
 cases hP13:rName sz ts with
 | bad er a=>
  rw [hP13] at K13 hEQ
  go_wp2_with fail
  refine K13.out.mono ?_
  rintro e w9 ⟨rfl,hF9⟩
  refine ⟨rfl, ?_⟩
  rw [hEQ.out]
  exact ⟨rfl,F2.out.trans hF9 (fun k e=>Or.inl e)⟩
 | ok x13 r1=>
  rw [hP13,Rd.bind_ok] at hEQ
  rw [hP13] at K13
  have hl13:=rName_shorter hP13
  clear hP13
  go_wp2_with fail
  refine K13.out.mono ?_
  rintro e w13 ⟨v13,rfl,rfl,hA9,hF9⟩
  have F13:Hid (Fr (fun k=>k=R) w w13):=F2.out.trans hF9 (fun k e=>Or.inl e)
  have S13:Hid (w13.heap[n7]? =_):=hF9.heap S2.out (fun e=>by omega)
  have B13:Hid (w13.heap[n7+1]? =_):=hF9.heap B2.out (fun e=>by omega)
  have X13:Hid (w13.heap[w.heap.size]? =_):=hF9.heap X2.out (fun e=>by omega)
  have A13:Hid (RdAt m w13 R sz r1):=hA9
  have y13:N2≤w13.heap.size:=Nat.le_trans y2 hF9.size
  clear hF9 hA9 K13 F2 S2 B2 X2 A2 s0 s1 s2 s3 s4 s5 s6 s7 s8
  obtain ⟨b0,b1,b2,b3,b4,b5,b6,b7,b8,b9⟩:=bx10 B13.out
  obtain ⟨g0,g1,g2,g3,g4,g5,g6,g7,g8,g9⟩:=bz10 B13.out
  go_upto_region 4 with fail
  refine wp_world ?_
  intro W14 hW14
  have G14:Hid (Fr (fun k=>k=n7+1) w13 W14):=by rw [hW14];exact (Fr.refl (fun k=>k=n7+1) w13).setCell (p:=⟨n7+1,1,none⟩) (Or.inl rfl) _
  have B14:Hid (W14.heap[n7+1]? =some (.cells #[.int .i64 k,.string x13,.int .i64 0,.slice none 0 0,.slice none 0 0,.int .i64 0,.int .i64 0,.bool false,.slice none 0 0,.slice none 0 0] 29 (0,0))):=by rw [hW14];exact (set_heap (j:=1) B13.out (.string x13))
  clear hW14
  have F14:Hid (Fr (fun k=>k=R) w W14):=F13.out.trans G14.out (fun k e=>Or.inr (by omega))
  have S14:Hid (W14.heap[n7]? =_):=G14.out.heap S13.out (fun e=>by omega)
  have X14:Hid (W14.heap[w.heap.size]? =_):=G14.out.heap X13.out (fun e=>by omega)
  have A14:Hid (RdAt m W14 R sz r1):=A13.out.fr G14.out (fun k e=>by omega)
  have y14:N2≤W14.heap.size:=Nat.le_trans y13 G14.out.size
  clear G14 F13 S13 B13 X13 A13 b0 b1 b2 b3 b4 b5 b6 b7 b8 b9 g0 g1 g2 g3 g4 g5 g6 g7 g8 g9
  obtain ⟨s0,s1,s2,s3,s4,s5,s6,s7,s8⟩:=bx9 S14.out
  obtain ⟨b0,b1,b2,b3,b4,b5,b6,b7,b8,b9⟩:=bx10 B14.out
  obtain ⟨g0,g1,g2,g3,g4,g5,g6,g7,g8,g9⟩:=bz10 B14.out
  have K15:Hid (∀ W:World,Below W14.heap.size W14 W→Calls Tryz.prog 156 #[.pointer (some ⟨R,0,none⟩)] W (RdO m R sz W (fun l v w'=>OwnN W.heap.size v l w') (rList sz r1))):=fun W hW=>CL.out r1 W (A14.out.below hW)
  have hPc:Hid ((∃ er a,rList sz r1=.bad er a)∨∃ x r,rList sz r1=.ok x r):=by
   cases hq:rList sz r1 with
   | bad er a=>exact Or.inl ⟨er,a,rfl⟩
   | ok x r=>exact Or.inr ⟨x,r,rfl⟩
  have hy15:N2≤W14.heap.size:=y14
  go_upto_region 8 with fail
  go_region_law (first | (go_simp;go_at_call 156;refine (K15.out _ (by go_grown)).mono ?_;intro e w15 q;rcases hPc.out with ⟨er,a,hP⟩ | ⟨x15,r4,hP⟩;(·(rw [hP] at q;obtain ⟨rfl,hF9⟩:=q;refine ⟨rfl, ?_⟩;rw [hEQ.out,hP];exact ⟨rfl,(F14.out.drew).trans hF9 (fun k e=>Or.inl e)⟩));rw [hP] at q;obtain ⟨v9,rfl,hO9,hA9,hF9⟩:=q;obtain ⟨p9,c9,rfl, -⟩:=hO9.cap;have hxl:=list_few A14.out.many hP;have z9:N2≤w15.heap.size:=Nat.le_trans hy15 hF9.size;have B9:Hid (w15.heap[n7+1]? =some (.cells #[.int .i64 k,.string x13,.int .i64 0,.slice none 0 0,.slice none 0 0,.int .i64 0,.int .i64 0,.bool false,.slice none 0 0,.slice none 0 0] 29 (0,0))):=hF9.heap (show W14.drew.heap[n7+1]? =_ from B14.out) (fun e=>by omega);have b39:=(bx10 B9.out).2.2.2.1;have h71:n7+1<w15.heap.size:=(by omega)) | (refine step_append_srcQ rfl (.tmp 33) (.tmp 35) 22 rfl N2 9 i0 (.string ByteArray.empty) 1 16 Tryz.underlying22 hi hz0 hz1 hz2 rfl (by decide) (.slice none 0 0) 0 [] (by simp [Act.eval]) ⟨rfl,Or.inl ⟨rfl,rfl⟩⟩ (.slice p9 x15.length c9) x15.length (x15.map Value.string) (by simp [Act.eval]) (src_names hO9) (by intro u hu;obtain ⟨s, -,rfl⟩:=List.mem_map.1 hu;rfl) (by unfold maxLen;omega) (by omega) (by omega) (fun v' w9 h2 h3=> ?_);have G9:Hid (Fr (fun _=>False) w15 w9):=(Fr.refl (fun _=>False) w15).grown h3 (fun k e=>by cases e);have C9:Hid (w9.heap[n7+1]? =some (.cells #[.int .i64 k,.string x13,.int .i64 0,.slice none 0 0,.slice none 0 0,.int .i64 0,.int .i64 0,.bool false,.slice none 0 0,.slice none 0 0] 29 (0,0))):=G9.out.heap B9.out (fun q=>q);have O9:Hid (w9.ownsRow N2 9 1 v' x15.length (x15.map Value.string)):=(by have q:=h2;unfold Hid;simpa using q);obtain ⟨pv15,cv15,rfl⟩:=row_form O9.out;have b49:=(bx10 C9.out).2.2.2.1;have f49:=(bz10 C9.out).2.2.2.1;clear h2 h3))
  all_goals (
   rw [hP,Rd.bind_ok] at hEQ
   have hl15:=sh_list sz _ _ _ hP
   have S9:Hid (w9.heap[n7]? =_):=G9.out.heap (hF9.heap (show W14.drew.heap[n7]? =_ from S14.out) (fun e=>by omega)) (fun q=>q)
   have X9:Hid (w9.heap[w.heap.size]? =_):=G9.out.heap (hF9.heap (show W14.drew.heap[w.heap.size]? =_ from X14.out) (fun e=>by omega)) (fun q=>q)
   have F9:Hid (Fr (fun k=>k=R) w w9):=((F14.out.drew).trans hF9 (fun k e=>Or.inl e)).trans G9.out (fun k q=>q.elim)
   have A9:Hid (RdAt m w9 R sz r4):=hA9.fr G9.out (fun k q=>q.elim)
   have y9:N2≤w9.heap.size:=Nat.le_trans z9 G9.out.size
   have M9:Hid (NmsOwn (fun q=>N2≤q) w9 (.slice pv15 x15.length cv15) x15):=nms_own9 O9.out (by first | rfl | (simp;done) | (simp;omega)) (by first | rfl | simp) (by first | omega | (simp;done) | (simp;omega))
   clear hP hPc K15 S14 X14 F14 A14 B14 B9 hF9 hA9 O9 G9 b0 b1 b2 b3 b4 b5 b6 b7 b8 b9 g0 g1 g2 g3 g4 g5 g6 g7 g8 g9 s0 s1 s2 s3 s4 s5 s6 s7 s8 b39 hO9
   go_upto_region 9 with fail
   refine wp_world ?_
   intro W16 hW16
   have G16:Hid (Fr (fun k=>k=n7+1) w9 W16):=by rw [hW16];exact (Fr.refl (fun k=>k=n7+1) w9).setCell (p:=⟨n7+1,3,none⟩) (Or.inl rfl) _
   have B16:Hid (W16.heap[n7+1]? =some (.cells #[.int .i64 k,.string x13,.int .i64 0,.slice pv15 x15.length cv15,.slice none 0 0,.int .i64 0,.int .i64 0,.bool false,.slice none 0 0,.slice none 0 0] 29 (0,0))):=by rw [hW16];exact set_heap (j:=3) C9.out (.slice pv15 x15.length cv15)
   clear hW16
   have F16:Hid (Fr (fun k=>k=R) w W16):=F9.out.trans G16.out (fun k e=>Or.inr (by omega))
   have S16:Hid (W16.heap[n7]? =_):=G16.out.heap S9.out (fun e=>by omega)
   have X16:Hid (W16.heap[w.heap.size]? =_):=G16.out.heap X9.out (fun e=>by omega)
   have A16:Hid (RdAt m W16 R sz r4):=A9.out.fr G16.out (fun k e=>by omega)
   have y16:N2≤W16.heap.size:=Nat.le_trans y9 G16.out.size
   have M16:Hid (NmsOwn (fun q=>N2≤q) W16 (.slice pv15 x15.length cv15) x15):=M9.out.keep (fun q hq hlt9=>G16.out.block q hlt9 (fun e=>by omega))
   clear S9 X9 F9 A9 M9 C9 b49 f49 G16 y9 z9
   obtain ⟨s0,s1,s2,s3,s4,s5,s6,s7,s8⟩:=bx9 S16.out
   have K17:Hid (Calls Tryz.prog 120 #[.pointer (some ⟨R,0,none⟩),.int .i64 ((0:Nat):Int),.bool false,.int .i64 d] W16 (RdO m R sz W16 (fun l v w'=>TmsOwn (fun q=>W16.heap.size≤q) w' v l) (rMany pt false n 0 r4))):=CT.out r4 W16 (by omega) A16.out
   cases hP17:rMany pt false n 0 r4 with
   | bad er a=>
    rw [hP17] at K17 hEQ
    go_wp2_with fail
    refine K17.out.mono ?_
    rintro e w9 ⟨rfl,hF9⟩
    refine ⟨rfl, ?_⟩
    rw [hEQ.out]
    exact ⟨rfl,F16.out.trans hF9 (fun k e=>Or.inl e)⟩
   | ok x17 r6=>
    rw [hP17,Rd.bind_ok] at hEQ
    rw [hP17] at K17
    have hl17:=STm.out _ _ _ _ hP17
    clear hP17
    go_wp2_with fail
    refine K17.out.mono ?_
    rintro e w17 ⟨v17,rfl,hQ9,hA9,hF9⟩
    have O170:Hid (TmsOwn (fun q=>N2≤q) w17 v17 x17):=hQ9.mono (fun q hq _=>by omega)
    obtain ⟨p17,c17,rfl, -⟩:=hQ9.at.form
    obtain ⟨l17,el17⟩:∃ y,Hid (x17.length=y):=⟨_,rfl⟩
    rw [el17.out] at O170 ⊢
    clear hQ9
    have F17:Hid (Fr (fun k=>k=R) w w17):=F16.out.trans hF9 (fun k e=>Or.inl e)
    have S17:Hid (w17.heap[n7]? =_):=hF9.heap S16.out (fun e=>by omega)
    have B17:Hid (w17.heap[n7+1]? =_):=hF9.heap B16.out (fun e=>by omega)
    have X17:Hid (w17.heap[w.heap.size]? =_):=hF9.heap X16.out (fun e=>by omega)
    have A17:Hid (RdAt m w17 R sz r6):=hA9
    have y17:N2≤w17.heap.size:=Nat.le_trans y16 hF9.size
    have M1716:Hid (NmsOwn (fun q=>N2≤q) w17 (.slice pv15 x15.length cv15) x15):=M16.out.keep (fun q hq hlt9=>hF9.block q hlt9 (fun e=>by omega))
    clear hF9 hA9 K17 F16 S16 B16 X16 A16 s0 s1 s2 s3 s4 s5 s6 s7 s8 M16
    obtain ⟨b0,b1,b2,b3,b4,b5,b6,b7,b8,b9⟩:=bx10 B17.out
    obtain ⟨g0,g1,g2,g3,g4,g5,g6,g7,g8,g9⟩:=bz10 B17.out
    go_upto_region 12 with fail
    refine wp_world ?_
    intro W18 hW18
    have G18:Hid (Fr (fun k=>k=n7+1) w17 W18):=by rw [hW18];exact (Fr.refl (fun k=>k=n7+1) w17).setCell (p:=⟨n7+1,4,none⟩) (Or.inl rfl) _
    have B18:Hid (W18.heap[n7+1]? =some (.cells #[.int .i64 k,.string x13,.int .i64 0,.slice pv15 x15.length cv15,.slice p17 l17 c17,.int .i64 0,.int .i64 0,.bool false,.slice none 0 0,.slice none 0 0] 29 (0,0))):=by rw [hW18];exact (set_heap (j:=4) B17.out (.slice p17 l17 c17))
    clear hW18
    have F18:Hid (Fr (fun k=>k=R) w W18):=F17.out.trans G18.out (fun k e=>Or.inr (by omega))
    have S18:Hid (W18.heap[n7]? =_):=G18.out.heap S17.out (fun e=>by omega)
    have X18:Hid (W18.heap[w.heap.size]? =_):=G18.out.heap X17.out (fun e=>by omega)
    have A18:Hid (RdAt m W18 R sz r6):=A17.out.fr G18.out (fun k e=>by omega)
    have y18:N2≤W18.heap.size:=Nat.le_trans y17 G18.out.size
    have M181716:Hid (NmsOwn (fun q=>N2≤q) W18 (.slice pv15 x15.length cv15) x15):=M1716.out.keep (fun q hq hlt9=>G18.out.block q hlt9 (fun e=>by omega))
    have O18170:Hid (TmsOwn (fun q=>N2≤q) W18 (.slice p17 l17 c17) x17):=O170.out.keep (fun q hq hlt9=>G18.out.block q hlt9 (fun e=>by omega))
    clear G18 F17 S17 B17 X17 A17 b0 b1 b2 b3 b4 b5 b6 b7 b8 b9 g0 g1 g2 g3 g4 g5 g6 g7 g8 g9 M1716 O170
    obtain ⟨s0,s1,s2,s3,s4,s5,s6,s7,s8⟩:=bx9 S18.out
    have K19:Hid (Calls Tryz.prog 158 #[.pointer (some ⟨R,0,none⟩),.int .i64 ((0:Nat):Int),.int .i64 d] W18 (RdO m R sz W18 (fun l v w'=>RxsOwn (fun q=>W18.heap.size≤q) w' v l) (rMany pr false n 0 r6))):=CR.out r6 W18 (by omega) A18.out
    cases hP19:rMany pr false n 0 r6 with
    | bad er a=>
     rw [hP19] at K19 hEQ
     go_wp2_with fail
     refine K19.out.mono ?_
     rintro e w9 ⟨rfl,hF9⟩
     refine ⟨rfl, ?_⟩
     rw [hEQ.out]
     exact ⟨rfl,F18.out.trans hF9 (fun k e=>Or.inl e)⟩
    | ok x19 r7=>
     rw [hP19,Rd.bind_ok] at hEQ
     rw [hP19] at K19
     have hl19:=SRm.out _ _ _ _ hP19
     clear hP19
     go_wp2_with fail
     refine K19.out.mono ?_
     rintro e w19 ⟨v19,rfl,hQ9,hA9,hF9⟩
     have O190:Hid (RxsOwn (fun q=>N2≤q) w19 v19 x19):=hQ9.mono (fun q hq _=>by omega)
     obtain ⟨p19,c19,rfl, -⟩:=hQ9.at.form
     obtain ⟨l19,el19⟩:∃ y,Hid (x19.length=y):=⟨_,rfl⟩
     rw [el19.out] at O190 ⊢
     clear hQ9
     have F19:Hid (Fr (fun k=>k=R) w w19):=F18.out.trans hF9 (fun k e=>Or.inl e)
     have S19:Hid (w19.heap[n7]? =_):=hF9.heap S18.out (fun e=>by omega)
     have B19:Hid (w19.heap[n7+1]? =_):=hF9.heap B18.out (fun e=>by omega)
     have X19:Hid (w19.heap[w.heap.size]? =_):=hF9.heap X18.out (fun e=>by omega)
     have A19:Hid (RdAt m w19 R sz r7):=hA9
     have y19:N2≤w19.heap.size:=Nat.le_trans y18 hF9.size
     have M19181716:Hid (NmsOwn (fun q=>N2≤q) w19 (.slice pv15 x15.length cv15) x15):=M181716.out.keep (fun q hq hlt9=>hF9.block q hlt9 (fun e=>by omega))
     have O1918170:Hid (TmsOwn (fun q=>N2≤q) w19 (.slice p17 l17 c17) x17):=O18170.out.keep (fun q hq hlt9=>hF9.block q hlt9 (fun e=>by omega))
     clear hF9 hA9 K19 F18 S18 B18 X18 A18 s0 s1 s2 s3 s4 s5 s6 s7 s8 M181716 O18170
     obtain ⟨b0,b1,b2,b3,b4,b5,b6,b7,b8,b9⟩:=bx10 B19.out
     obtain ⟨g0,g1,g2,g3,g4,g5,g6,g7,g8,g9⟩:=bz10 B19.out
     go_upto_region 13 with fail
     refine wp_world ?_
     intro W20 hW20
     have G20:Hid (Fr (fun k=>k=n7+1) w19 W20):=by rw [hW20];exact (Fr.refl (fun k=>k=n7+1) w19).setCell (p:=⟨n7+1,9,none⟩) (Or.inl rfl) _
     have B20:Hid (W20.heap[n7+1]? =some (.cells #[.int .i64 k,.string x13,.int .i64 0,.slice pv15 x15.length cv15,.slice p17 l17 c17,.int .i64 0,.int .i64 0,.bool false,.slice none 0 0,.slice p19 l19 c19] 29 (0,0))):=by rw [hW20];exact (set_heap (j:=9) B19.out (.slice p19 l19 c19))
     clear hW20
     have F20:Hid (Fr (fun k=>k=R) w W20):=F19.out.trans G20.out (fun k e=>Or.inr (by omega))
     have S20:Hid (W20.heap[n7]? =_):=G20.out.heap S19.out (fun e=>by omega)
     have X20:Hid (W20.heap[w.heap.size]? =_):=G20.out.heap X19.out (fun e=>by omega)
     have A20:Hid (RdAt m W20 R sz r7):=A19.out.fr G20.out (fun k e=>by omega)
     have y20:N2≤W20.heap.size:=Nat.le_trans y19 G20.out.size
     have M2019181716:Hid (NmsOwn (fun q=>N2≤q) W20 (.slice pv15 x15.length cv15) x15):=M19181716.out.keep (fun q hq hlt9=>G20.out.block q hlt9 (fun e=>by omega))
     have O201918170:Hid (TmsOwn (fun q=>N2≤q) W20 (.slice p17 l17 c17) x17):=O1918170.out.keep (fun q hq hlt9=>G20.out.block q hlt9 (fun e=>by omega))
     have O20190:Hid (RxsOwn (fun q=>N2≤q) W20 (.slice p19 l19 c19) x19):=O190.out.keep (fun q hq hlt9=>G20.out.block q hlt9 (fun e=>by omega))
     clear G20 F19 S19 B19 X19 A19 b0 b1 b2 b3 b4 b5 b6 b7 b8 b9 g0 g1 g2 g3 g4 g5 g6 g7 g8 g9 M19181716 O1918170 O190
     obtain ⟨s0,s1,s2,s3,s4,s5,s6,s7,s8⟩:=bx9 S20.out
     have K21:Hid (Calls Tryz.prog 159 #[.pointer (some ⟨R,0,none⟩),.int .i64 ((2:Nat):Int),.bool false,.int .i64 d] W20 (RdO m R sz W20 (fun l v w'=>FmsOwn (fun q=>W20.heap.size≤q) w' v l) (rMany pf false n 2 r7))):=CF.out r7 W20 (by omega) A20.out
     cases hP21:rMany pf false n 2 r7 with
     | bad er a=>
      rw [hP21] at K21 hEQ
      go_wp2_with fail
      refine K21.out.mono ?_
      rintro e w9 ⟨rfl,hF9⟩
      refine ⟨rfl, ?_⟩
      rw [hEQ.out]
      exact ⟨rfl,F20.out.trans hF9 (fun k e=>Or.inl e)⟩
     | ok x21 r8=>
      rw [hP21,Rd.bind_ok] at hEQ
      rw [hP21] at K21
      clear hP21
      go_wp2_with fail
      refine K21.out.mono ?_
      rintro e w21 ⟨v21,rfl,hQ9,hA9,hF9⟩
      have O210:Hid (FmsOwn (fun q=>N2≤q) w21 v21 x21):=hQ9.mono (fun q hq _=>by omega)
      obtain ⟨p21,c21,rfl, -⟩:=hQ9.at.form
      obtain ⟨l21,el21⟩:∃ y,Hid (x21.length=y):=⟨_,rfl⟩
      rw [el21.out] at O210 ⊢
      clear hQ9
      have F21:Hid (Fr (fun k=>k=R) w w21):=F20.out.trans hF9 (fun k e=>Or.inl e)
      have S21:Hid (w21.heap[n7]? =_):=hF9.heap S20.out (fun e=>by omega)
      have B21:Hid (w21.heap[n7+1]? =_):=hF9.heap B20.out (fun e=>by omega)
      have X21:Hid (w21.heap[w.heap.size]? =_):=hF9.heap X20.out (fun e=>by omega)
      have A21:Hid (RdAt m w21 R sz r8):=hA9
      have y21:N2≤w21.heap.size:=Nat.le_trans y20 hF9.size
      have M212019181716:Hid (NmsOwn (fun q=>N2≤q) w21 (.slice pv15 x15.length cv15) x15):=M2019181716.out.keep (fun q hq hlt9=>hF9.block q hlt9 (fun e=>by omega))
      have O21201918170:Hid (TmsOwn (fun q=>N2≤q) w21 (.slice p17 l17 c17) x17):=O201918170.out.keep (fun q hq hlt9=>hF9.block q hlt9 (fun e=>by omega))
      have O2120190:Hid (RxsOwn (fun q=>N2≤q) w21 (.slice p19 l19 c19) x19):=O20190.out.keep (fun q hq hlt9=>hF9.block q hlt9 (fun e=>by omega))
      clear hF9 hA9 K21 F20 S20 B20 X20 A20 s0 s1 s2 s3 s4 s5 s6 s7 s8 M2019181716 O201918170 O20190
      obtain ⟨b0,b1,b2,b3,b4,b5,b6,b7,b8,b9⟩:=bx10 B21.out
      obtain ⟨g0,g1,g2,g3,g4,g5,g6,g7,g8,g9⟩:=bz10 B21.out
      go_upto_region 14 with fail
      refine wp_world ?_
      intro W22 hW22
      have G22:Hid (Fr (fun k=>k=n7+1) w21 W22):=by rw [hW22];exact (Fr.refl (fun k=>k=n7+1) w21).setCell (p:=⟨n7+1,8,none⟩) (Or.inl rfl) _
      have B22:Hid (W22.heap[n7+1]? =some (.cells #[.int .i64 k,.string x13,.int .i64 0,.slice pv15 x15.length cv15,.slice p17 l17 c17,.int .i64 0,.int .i64 0,.bool false,.slice p21 l21 c21,.slice p19 l19 c19] 29 (0,0))):=by rw [hW22];exact (set_heap (j:=8) B21.out (.slice p21 l21 c21))
      clear hW22
      have F22:Hid (Fr (fun k=>k=R) w W22):=F21.out.trans G22.out (fun k e=>Or.inr (by omega))
      have S22:Hid (W22.heap[n7]? =_):=G22.out.heap S21.out (fun e=>by omega)
      have X22:Hid (W22.heap[w.heap.size]? =_):=G22.out.heap X21.out (fun e=>by omega)
      have A22:Hid (RdAt m W22 R sz r8):=A21.out.fr G22.out (fun k e=>by omega)
      have y22:N2≤W22.heap.size:=Nat.le_trans y21 G22.out.size
      have M22212019181716:Hid (NmsOwn (fun q=>N2≤q) W22 (.slice pv15 x15.length cv15) x15):=M212019181716.out.keep (fun q hq hlt9=>G22.out.block q hlt9 (fun e=>by omega))
      have O2221201918170:Hid (TmsOwn (fun q=>N2≤q) W22 (.slice p17 l17 c17) x17):=O21201918170.out.keep (fun q hq hlt9=>G22.out.block q hlt9 (fun e=>by omega))
      have O222120190:Hid (RxsOwn (fun q=>N2≤q) W22 (.slice p19 l19 c19) x19):=O2120190.out.keep (fun q hq hlt9=>G22.out.block q hlt9 (fun e=>by omega))
      have O22210:Hid (FmsOwn (fun q=>N2≤q) W22 (.slice p21 l21 c21) x21):=O210.out.keep (fun q hq hlt9=>G22.out.block q hlt9 (fun e=>by omega))
      clear G22 F21 S21 B21 X21 A21 b0 b1 b2 b3 b4 b5 b6 b7 b8 b9 g0 g1 g2 g3 g4 g5 g6 g7 g8 g9 M212019181716 O21201918170 O2120190 O210
      obtain ⟨b0,b1,b2,b3,b4,b5,b6,b7,b8,b9⟩:=bx10 B22.out
      obtain ⟨r0,r1,r2,r3,r4,r5,r6,r7,r8,r9⟩:=bx10 X22.out
      obtain ⟨q0,q1,q2,q3,q4,q5,q6,q7,q8,q9⟩:=bz10 X22.out
      go_wp2
      generalize hW9:World.setCell _ _ _=W9
      have X9:W9.heap[w.heap.size]? =some (.cells #[.int .i64 k,.string x13,.int .i64 0,.slice pv15 x15.length cv15,.slice p17 l17 c17,.int .i64 0,.int .i64 0,.bool false,.slice p21 l21 c21,.slice p19 l19 c19] 29 (0,0)):=by rw [← hW9];exact put10 X22.out
      have F9:Fr (fun k=>k=R) w W9:=by rw [← hW9];exact frp10 F22.out (Or.inr (Nat.le_refl _)) _ _ _ _ _ _ _ _ _ _
      have G9:Fr (fun k=>k=w.heap.size) W22 W9:=by rw [← hW9];exact frp10 (Fr.refl (fun k=>k=w.heap.size) W22) (Or.inl rfl) _ _ _ _ _ _ _ _ _ _
      clear hW9
      obtain ⟨oc0,oc1,oc2,oc3,oc4,oc5,oc6,oc7,oc8,oc9⟩:=bx10 X9
      refine bodyPost_ret (by simp [results,Tryz.results121,go_sem,oc0,oc1,oc2,oc3,oc4,oc5,oc6,oc7,oc8,oc9];try rfl) rfl ?_
      rw [hEQ.out]
      exact ⟨_,rfl,⟨⟨(.slice pv15 x15.length cv15),(.slice p17 l17 c17),(.slice p21 l21 c21),(.slice p19 l19 c19)⟩,rfl,⟨(M22212019181716.out.keep (w':=W9) (fun q hq hlt9=>G9.block q hlt9 (fun e=>by omega))).mono (fun q hq _=>by omega),(O2221201918170.out.keep (w':=W9) (fun q hq hlt9=>G9.block q hlt9 (fun e=>by omega))).mono (fun q hq _=>by omega),(O22210.out.keep (w':=W9) (fun q hq hlt9=>G9.block q hlt9 (fun e=>by omega))).mono (fun q hq _=>by omega),(O222120190.out.keep (w':=W9) (fun q hq hlt9=>G9.block q hlt9 (fun e=>by omega))).mono (fun q hq _=>by omega)⟩⟩,A22.out.fr G9 (fun k e=>by omega),F9⟩)
theorem shaped_agg (m R sz N:Nat) (ts:List (Tok Val)) (d k:Int) (hd:ByteArray) (w:World) (h:RdAt m w R sz ts) (n:Nat) (pt:List (Tok Val)→Rd Tm) (pf:List (Tok Val)→Rd Fm) (pr:List (Tok Val)→Rd Rx) (hst:Shr pt) (hsr:Shr pr) (hN:ts.length≤N) (hk1:3≤k) (hk2:k≤22) (hk:shp k=⟨true,true,true,false,0,0,1,false⟩) (hhd:(⟨(if k=3 then [] else hdF k).toArray⟩:ByteArray)=hd)
  (HT:∀ (kk:Nat) (rr:List (Tok Val)) (W:World),rr.length≤N→RdAt m W R sz rr→Calls Tryz.prog 120 #[.pointer (some ⟨R,0,none⟩),.int .i64 ((kk:Nat):Int),.bool false,.int .i64 d] W (RdO m R sz W (fun l v w'=>TmsOwn (fun q=>W.heap.size≤q) w' v l) (rMany pt false n kk rr)))
  (HR:∀ (kk:Nat) (rr:List (Tok Val)) (W:World),rr.length≤N→RdAt m W R sz rr→Calls Tryz.prog 158 #[.pointer (some ⟨R,0,none⟩),.int .i64 ((kk:Nat):Int),.int .i64 d] W (RdO m R sz W (fun l v w'=>RxsOwn (fun q=>W.heap.size≤q) w' v l) (rMany pr false n kk rr)))
  (HF:∀ (kk:Nat) (more:Bool) (rr:List (Tok Val)) (W:World),rr.length≤N→RdAt m W R sz rr→Calls Tryz.prog 159 #[.pointer (some ⟨R,0,none⟩),.int .i64 ((kk:Nat):Int),.bool more,.int .i64 d] W (RdO m R sz W (fun l v w'=>FmsOwn (fun q=>W.heap.size≤q) w' v l) (rMany pf more n kk rr))):
  Calls Tryz.prog 121 #[.pointer (some ⟨R,0,none⟩),.int .i64 k,.int .i64 d] w (RdO m R sz w (FmV w) (pShaped sz n pt pf pr k ts)):=by
 have hlt:=h.lt
 obtain ⟨RS,hRS⟩:∃ x:Rd Fm,Hid (pShaped sz n pt pf pr k ts=x):=⟨_,rfl⟩
 rw [hRS.out]
 have hEQ:Hid (RS=(rName sz ts).bind fun nm r1=>(rOp sz r1).bind fun op r2=>((rName sz r2).bind fun x r'=>.ok [x] r').bind fun v0 r3=>(rList sz r3).bind fun vs r4=>(rMany pt false n 0 r4).bind fun tms r6=>(rMany pr false n 0 r6).bind fun rx r7=>(rMany pf false n 1 r7).bind fun fs r8=>.ok (.mk k nm op (v0++vs) tms 0 0 false fs rx) r8):=by
  show _=_
  rw [← hRS.out]
  unfold pShaped
  rw [hk]
  rfl
 have cS:Hid (∀ W:World,Calls Tryz.prog 35 #[.int .i64 k] W fun e w'=>e=.returned (.agg #[.string hd,.bool true,.bool true,.bool true,.bool false,.int .i64 ((0:Nat):Int),.int .i64 ((0:Nat):Int),.int .i64 ((1:Nat):Int),.bool false])∧Below W.heap.size W w'):=fun W=>by
  have q:=shape_any k W hk1 hk2
  rw [hk] at q
  rw [← hhd]
  exact q
 have CT:Hid (∀ (rr:List (Tok Val)) (W:World),rr.length≤N→RdAt m W R sz rr→Calls Tryz.prog 120 #[.pointer (some ⟨R,0,none⟩),.int .i64 ((0:Nat):Int),.bool false,.int .i64 d] W (RdO m R sz W (fun l v w'=>TmsOwn (fun q=>W.heap.size≤q) w' v l) (rMany pt false n 0 rr))):=fun rr W hl hW=>HT 0 rr W hl hW
 have CR:Hid (∀ (rr:List (Tok Val)) (W:World),rr.length≤N→RdAt m W R sz rr→Calls Tryz.prog 158 #[.pointer (some ⟨R,0,none⟩),.int .i64 ((0:Nat):Int),.int .i64 d] W (RdO m R sz W (fun l v w'=>RxsOwn (fun q=>W.heap.size≤q) w' v l) (rMany pr false n 0 rr))):=fun rr W hl hW=>HR 0 rr W hl hW
 have CF:Hid (∀ (rr:List (Tok Val)) (W:World),rr.length≤N→RdAt m W R sz rr→Calls Tryz.prog 159 #[.pointer (some ⟨R,0,none⟩),.int .i64 ((1:Nat):Int),.bool false,.int .i64 d] W (RdO m R sz W (fun l v w'=>FmsOwn (fun q=>W.heap.size≤q) w' v l) (rMany pf false n 1 rr))):=fun rr W hl hW=>HF 1 false rr W hl hW
 have CI:Hid (∀ (rr:List (Tok Val)) (W:World),RdAt m W R sz rr→Calls Tryz.prog 157 #[.pointer (some ⟨R,0,none⟩)] W (RdO m R sz W (fun iv v _=>v=.agg #[.int .i64 iv.1,.int .i64 iv.2.1,.bool iv.2.2]) (rIv sz rr))):=fun rr W hW=>rival_any m R sz rr W hW
 have STm:Hid (∀ kk ts a r,rMany pt false n kk ts=.ok a r→r.length≤ts.length):=fun kk ts a r e=>sh_many (fun ts a r e=>by have:=hst ts a r e;omega) false n kk ts a r e
 have SRm:Hid (∀ kk ts a r,rMany pr false n kk ts=.ok a r→r.length≤ts.length):=fun kk ts a r e=>sh_many (fun ts a r e=>by have:=hsr ts a r e;omega) false n kk ts a r e
 have CN:Hid (∀ (rr:List (Tok Val)) (W:World),RdAt m W R sz rr→Calls Tryz.prog 154 #[.pointer (some ⟨R,0,none⟩)] W (RdO m R sz W (fun x v _=>v=.string x) (rName sz rr))):=fun rr W hW=>rdname_any m R sz rr W hW
 have CO:Hid (∀ (rr:List (Tok Val)) (W:World),RdAt m W R sz rr→Calls Tryz.prog 155 #[.pointer (some ⟨R,0,none⟩)] W (RdO m R sz W (fun k v _=>v=.int .i64 k) (rOp sz rr))):=fun rr W hW=>roper_any m R sz rr W hW
 have CL:Hid (∀ (rr:List (Tok Val)) (W:World),RdAt m W R sz rr→Calls Tryz.prog 156 #[.pointer (some ⟨R,0,none⟩)] W (RdO m R sz W (fun l v w'=>OwnN W.heap.size v l w') (rList sz rr))):=fun rr W hW=>rdnames_any m R sz rr W hW
 obtain ⟨i0,hi,hz0,hz1,hz2⟩:=info_parts inStA
 clear hRS HT HR HF hst hsr hk hhd
 go_enter Tryz.func121,Tryz.ntmps121
 go_wp2_with fail
 refine (cS.out _).mono ?_
 rintro e w1 ⟨rfl,hb1⟩
 have z1:w.heap.size<w1.heap.size:=by have:=hb1.size;simp at this;omega
 have X1:Hid (w1.heap[w.heap.size]? =some (.cells #[.int .i64 0,.string ⟨#[]⟩,.int .i64 0,.slice none 0 0,.slice none 0 0,.int .i64 0,.int .i64 0,.bool false,.slice none 0 0,.slice none 0 0] 29 (0,0))):=(hb1.block w.heap.size (by simp)).trans (new_box w _)
 have F1:Hid (Fr (fun k=>k=R) w w1):=Fr.of_below (((Below.refl _ _).alloc (Nat.le_refl _) _).trans (hb1.mono (by simp)))
 have A1:Hid (RdAt m w1 R sz ts):=h.below (((Below.refl _ _).alloc (Nat.le_refl _) _).trans (hb1.mono (by simp)))
 clear hb1 cS h
 go_upto_region 2 with fail
 refine wp_world ?_
 intro W2 hW2
 have S2:Hid (W2.heap[w1.heap.size]? =some (.cells #[.string hd,.bool true,.bool true,.bool true,.bool false,.int .i64 ((0:Nat):Int),.int .i64 ((0:Nat):Int),.int .i64 ((1:Nat):Int),.bool false] 82 (0,0))):=by rw [hW2];exact (Below.heap_alloc _ _ _ (by simp)).trans (new_box w1 _)
 have B2:Hid (W2.heap[w1.heap.size+1]? =some (.cells #[.int .i64 k,.string ⟨#[]⟩,.int .i64 0,.slice none 0 0,.slice none 0 0,.int .i64 0,.int .i64 0,.bool false,.slice none 0 0,.slice none 0 0] 29 (0,0))):=by
  rw [hW2]
  have q:=new_box (w1.alloc (.cells #[.string hd,.bool true,.bool true,.bool true,.bool false,.int .i64 ((0:Nat):Int),.int .i64 ((0:Nat):Int),.int .i64 ((1:Nat):Int),.bool false] 82)) (.cells #[.int .i64 k,.string ⟨#[]⟩,.int .i64 0,.slice none 0 0,.slice none 0 0,.int .i64 0,.int .i64 0,.bool false,.slice none 0 0,.slice none 0 0] 29)
  simp only [World.size_alloc] at q
  exact q
 have X2:Hid (W2.heap[w.heap.size]? =some (.cells #[.int .i64 0,.string ⟨#[]⟩,.int .i64 0,.slice none 0 0,.slice none 0 0,.int .i64 0,.int .i64 0,.bool false,.slice none 0 0,.slice none 0 0] 29 (0,0))):=by rw [hW2];exact (((Fr.refl (fun k=>k=R) w1).alloc _).alloc _).heap X1.out (fun e=>by omega)
 have F2:Hid (Fr (fun k=>k=R) w W2):=by rw [hW2];exact (F1.out.alloc _).alloc _
 have A2:Hid (RdAt m W2 R sz ts):=by rw [hW2];exact A1.out.below (((Below.refl w1.heap.size w1).alloc (Nat.le_refl _) _).alloc (by simp) _)
 have zz:w1.heap.size+2=W2.heap.size:=by rw [hW2];simp
 clear hW2 F1 A1 X1
 generalize w1.heap.size=n7 at*
 have ZN:Hid (n7+2=W2.heap.size):=zz
 obtain ⟨N2,hN2⟩:∃ x,Hid (W2.heap.size=x):=⟨_,rfl⟩
 have zz2:n7+2=N2:=by rw [← hN2.out];exact ZN.out
 have y2:N2≤W2.heap.size:=Nat.le_of_eq hN2.out.symm
 clear zz ZN hN2
 obtain ⟨s0,s1,s2,s3,s4,s5,s6,s7,s8⟩:=bx9 S2.out
 have K13:Hid (Calls Tryz.prog 154 #[.pointer (some ⟨R,0,none⟩)] W2 (RdO m R sz W2 (fun x v _=>v=.string x) (rName sz ts))):=CN.out ts W2 A2.out
 cases hP13:rName sz ts with
 | bad er a=>
  rw [hP13] at K13 hEQ
  go_wp2_with fail
  refine K13.out.mono ?_
  rintro e w9 ⟨rfl,hF9⟩
  refine ⟨rfl, ?_⟩
  rw [hEQ.out]
  exact ⟨rfl,F2.out.trans hF9 (fun k e=>Or.inl e)⟩
 | ok x13 r1=>
  rw [hP13,Rd.bind_ok] at hEQ
  rw [hP13] at K13
  have hl13:=rName_shorter hP13
  clear hP13
  go_wp2_with fail
  refine K13.out.mono ?_
  rintro e w13 ⟨v13,rfl,rfl,hA9,hF9⟩
  have F13:Hid (Fr (fun k=>k=R) w w13):=F2.out.trans hF9 (fun k e=>Or.inl e)
  have S13:Hid (w13.heap[n7]? =_):=hF9.heap S2.out (fun e=>by omega)
  have B13:Hid (w13.heap[n7+1]? =_):=hF9.heap B2.out (fun e=>by omega)
  have X13:Hid (w13.heap[w.heap.size]? =_):=hF9.heap X2.out (fun e=>by omega)
  have A13:Hid (RdAt m w13 R sz r1):=hA9
  have y13:N2≤w13.heap.size:=Nat.le_trans y2 hF9.size
  clear hF9 hA9 K13 F2 S2 B2 X2 A2 s0 s1 s2 s3 s4 s5 s6 s7 s8
  obtain ⟨b0,b1,b2,b3,b4,b5,b6,b7,b8,b9⟩:=bx10 B13.out
  obtain ⟨g0,g1,g2,g3,g4,g5,g6,g7,g8,g9⟩:=bz10 B13.out
  go_upto_region 4 with fail
  refine wp_world ?_
  intro W14 hW14
  have G14:Hid (Fr (fun k=>k=n7+1) w13 W14):=by rw [hW14];exact (Fr.refl (fun k=>k=n7+1) w13).setCell (p:=⟨n7+1,1,none⟩) (Or.inl rfl) _
  have B14:Hid (W14.heap[n7+1]? =some (.cells #[.int .i64 k,.string x13,.int .i64 0,.slice none 0 0,.slice none 0 0,.int .i64 0,.int .i64 0,.bool false,.slice none 0 0,.slice none 0 0] 29 (0,0))):=by rw [hW14];exact (set_heap (j:=1) B13.out (.string x13))
  clear hW14
  have F14:Hid (Fr (fun k=>k=R) w W14):=F13.out.trans G14.out (fun k e=>Or.inr (by omega))
  have S14:Hid (W14.heap[n7]? =_):=G14.out.heap S13.out (fun e=>by omega)
  have X14:Hid (W14.heap[w.heap.size]? =_):=G14.out.heap X13.out (fun e=>by omega)
  have A14:Hid (RdAt m W14 R sz r1):=A13.out.fr G14.out (fun k e=>by omega)
  have y14:N2≤W14.heap.size:=Nat.le_trans y13 G14.out.size
  clear G14 F13 S13 B13 X13 A13 b0 b1 b2 b3 b4 b5 b6 b7 b8 b9 g0 g1 g2 g3 g4 g5 g6 g7 g8 g9
  obtain ⟨s0,s1,s2,s3,s4,s5,s6,s7,s8⟩:=bx9 S14.out
  have K15:Hid (Calls Tryz.prog 155 #[.pointer (some ⟨R,0,none⟩)] W14 (RdO m R sz W14 (fun k v _=>v=.int .i64 k) (rOp sz r1))):=CO.out r1 W14 A14.out
  cases hP15:rOp sz r1 with
  | bad er a=>
   rw [hP15] at K15 hEQ
   go_wp2_with fail
   refine K15.out.mono ?_
   rintro e w9 ⟨rfl,hF9⟩
   refine ⟨rfl, ?_⟩
   rw [hEQ.out]
   exact ⟨rfl,F14.out.trans hF9 (fun k e=>Or.inl e)⟩
  | ok x15 r2=>
   rw [hP15,Rd.bind_ok] at hEQ
   rw [hP15] at K15
   have hl15:=sh_op sz _ _ _ hP15
   clear hP15
   go_wp2_with fail
   refine K15.out.mono ?_
   rintro e w15 ⟨v15,rfl,rfl,hA9,hF9⟩
   have F15:Hid (Fr (fun k=>k=R) w w15):=F14.out.trans hF9 (fun k e=>Or.inl e)
   have S15:Hid (w15.heap[n7]? =_):=hF9.heap S14.out (fun e=>by omega)
   have B15:Hid (w15.heap[n7+1]? =_):=hF9.heap B14.out (fun e=>by omega)
   have X15:Hid (w15.heap[w.heap.size]? =_):=hF9.heap X14.out (fun e=>by omega)
   have A15:Hid (RdAt m w15 R sz r2):=hA9
   have y15:N2≤w15.heap.size:=Nat.le_trans y14 hF9.size
   clear hF9 hA9 K15 F14 S14 B14 X14 A14 s0 s1 s2 s3 s4 s5 s6 s7 s8
   obtain ⟨b0,b1,b2,b3,b4,b5,b6,b7,b8,b9⟩:=bx10 B15.out
   obtain ⟨g0,g1,g2,g3,g4,g5,g6,g7,g8,g9⟩:=bz10 B15.out
   go_upto_region 6 with fail
   refine wp_world ?_
   intro W16 hW16
   have G16:Hid (Fr (fun k=>k=n7+1) w15 W16):=by rw [hW16];exact (Fr.refl (fun k=>k=n7+1) w15).setCell (p:=⟨n7+1,2,none⟩) (Or.inl rfl) _
   have B16:Hid (W16.heap[n7+1]? =some (.cells #[.int .i64 k,.string x13,.int .i64 x15,.slice none 0 0,.slice none 0 0,.int .i64 0,.int .i64 0,.bool false,.slice none 0 0,.slice none 0 0] 29 (0,0))):=by rw [hW16];exact (set_heap (j:=2) B15.out (.int .i64 x15))
   clear hW16
   have F16:Hid (Fr (fun k=>k=R) w W16):=F15.out.trans G16.out (fun k e=>Or.inr (by omega))
   have S16:Hid (W16.heap[n7]? =_):=G16.out.heap S15.out (fun e=>by omega)
   have X16:Hid (W16.heap[w.heap.size]? =_):=G16.out.heap X15.out (fun e=>by omega)
   have A16:Hid (RdAt m W16 R sz r2):=A15.out.fr G16.out (fun k e=>by omega)
   have y16:N2≤W16.heap.size:=Nat.le_trans y15 G16.out.size
   clear G16 F15 S15 B15 X15 A15 b0 b1 b2 b3 b4 b5 b6 b7 b8 b9 g0 g1 g2 g3 g4 g5 g6 g7 g8 g9
   obtain ⟨s0,s1,s2,s3,s4,s5,s6,s7,s8⟩:=bx9 S16.out
   obtain ⟨b0,b1,b2,b3,b4,b5,b6,b7,b8,b9⟩:=bx10 B16.out
   obtain ⟨g0,g1,g2,g3,g4,g5,g6,g7,g8,g9⟩:=bz10 B16.out
   have K17:Hid (∀ W:World,Below W16.heap.size W16 W→Calls Tryz.prog 154 #[.pointer (some ⟨R,0,none⟩)] W (RdO m R sz W (fun x v _=>v=.string x) (rName sz r2))):=fun W hW=>CN.out r2 W (A16.out.below hW)
   have hPc:Hid ((∃ er a,rName sz r2=.bad er a)∨∃ x r,rName sz r2=.ok x r):=by
    cases hq:rName sz r2 with
    | bad er a=>exact Or.inl ⟨er,a,rfl⟩
    | ok x r=>exact Or.inr ⟨x,r,rfl⟩
   have hy17:N2≤W16.heap.size:=y16
   go_upto_region 6 with fail
   go_cut [] (fun wx=>∃ x17 r3 pv17 cv17,Hid (rName sz r2=.ok x17 r3)∧Hid (Fr (fun k=>k=R) w wx)∧Hid (wx.heap[n7]? =some (.cells #[.string hd,.bool true,.bool true,.bool true,.bool false,.int .i64 ((0:Nat):Int),.int .i64 ((0:Nat):Int),.int .i64 ((1:Nat):Int),.bool false] 82 (0,0)))∧Hid (wx.heap[n7+1]? =some (.cells #[.int .i64 k,.string x13,.int .i64 x15,.slice pv17 1 cv17,.slice none 0 0,.int .i64 0,.int .i64 0,.bool false,.slice none 0 0,.slice none 0 0] 29 (0,0)))∧Hid (wx.heap[w.heap.size]? =some (.cells #[.int .i64 0,.string ⟨#[]⟩,.int .i64 0,.slice none 0 0,.slice none 0 0,.int .i64 0,.int .i64 0,.bool false,.slice none 0 0,.slice none 0 0] 29 (0,0)))∧Hid (RdAt m wx R sz r3)∧N2≤wx.heap.size∧Hid (NmsOwn (fun q=>N2≤q) wx (.slice pv17 1 cv17) [x17]))
   case first=>
    go_region_law (first | (go_simp;go_at_call 154;refine (K17.out _ (by go_grown)).mono ?_;intro e w17 q;rcases hPc.out with ⟨er,a,hP⟩ | ⟨x17,r3,hP⟩;(·(rw [hP] at q;obtain ⟨rfl,hF9⟩:=q;refine ⟨rfl, ?_⟩;rw [hEQ.out,hP];exact ⟨rfl,(F16.out.drew).trans hF9 (fun k e=>Or.inl e)⟩));rw [hP] at q;obtain ⟨v9,rfl,rfl,hA9,hF9⟩:=q;have z9:N2≤w17.heap.size:=Nat.le_trans hy17 hF9.size;have B9:Hid (w17.heap[n7+1]? =some (.cells #[.int .i64 k,.string x13,.int .i64 x15,.slice none 0 0,.slice none 0 0,.int .i64 0,.int .i64 0,.bool false,.slice none 0 0,.slice none 0 0] 29 (0,0))):=hF9.heap (show W16.drew.heap[n7+1]? =_ from B16.out) (fun e=>by omega);have b39:=(bx10 B9.out).2.2.2.1;have h71:n7+1<w17.heap.size:=(by omega)) | (refine step_append_at rfl (.tmp 24) (.tmp 27) 22 rfl N2 9 i0 (.string ByteArray.empty) 1 16 Tryz.underlying22 hi hz0 hz1 hz2 rfl (by decide) (.slice none 0 0) 0 [] (by simp [Act.eval]) ⟨rfl,Or.inl ⟨rfl,rfl⟩⟩ ⟨w17.heap.size,0,none⟩ 1 1 [.string x17] (by simp [Act.eval]) rfl (by intro j u hj;rw [Addr.add_lit];(rcases j with _ | j)<;>simp at hj<;>subst hj<;>simp (maxDischargeDepth:=12) [go_sem]) (by intro u hu;simp at hu;subst hu;rfl) (by unfold maxLen;omega) (by omega) (by simp;omega) (fun v' w9 h2 h3 _=> ?_);have G9:Hid (Fr (fun _=>False) w17 w9):=((Fr.refl (fun _=>False) w17).alloc _).grown h3 (fun k e=>by cases e);have C9:Hid (w9.heap[n7+1]? =some (.cells #[.int .i64 k,.string x13,.int .i64 x15,.slice none 0 0,.slice none 0 0,.int .i64 0,.int .i64 0,.bool false,.slice none 0 0,.slice none 0 0] 29 (0,0))):=G9.out.heap B9.out (fun q=>q);have O9:Hid (w9.ownsRow N2 9 1 v' 1 [Value.string x17]):=(by have q:=h2;unfold Hid;simpa using q);obtain ⟨pv17,cv17,rfl⟩:=row_form O9.out;have b49:=(bx10 C9.out).2.2.2.1;have f49:=(bz10 C9.out).2.2.2.1;clear h2 h3))
    all_goals (
     have S9:Hid (w9.heap[n7]? =_):=G9.out.heap (hF9.heap (show W16.drew.heap[n7]? =_ from S16.out) (fun e=>by omega)) (fun q=>q)
     have X9:Hid (w9.heap[w.heap.size]? =_):=G9.out.heap (hF9.heap (show W16.drew.heap[w.heap.size]? =_ from X16.out) (fun e=>by omega)) (fun q=>q)
     have F9:Hid (Fr (fun k=>k=R) w w9):=((F16.out.drew).trans hF9 (fun k e=>Or.inl e)).trans G9.out (fun k q=>q.elim)
     have A9:Hid (RdAt m w9 R sz r3):=hA9.fr G9.out (fun k q=>q.elim)
     have y9:N2≤w9.heap.size:=Nat.le_trans z9 G9.out.size
     have M9:Hid (NmsOwn (fun q=>N2≤q) w9 (.slice pv17 1 cv17) [x17]):=nms_own9 O9.out (by first | rfl | (simp;done) | (simp;omega)) (by first | rfl | simp) (by first | omega | (simp;done) | (simp;omega))
     go_wp2_with fail
     go_meet
     generalize hW18:World.setCell _ _ _=W18
     have G18:Hid (Fr (fun k=>k=n7+1) w9 W18):=by rw [← hW18];exact (Fr.refl (fun k=>k=n7+1) w9).setCell (p:=⟨n7+1,3,none⟩) (Or.inl rfl) _
     have B18:Hid (W18.heap[n7+1]? =some (.cells #[.int .i64 k,.string x13,.int .i64 x15,.slice pv17 1 cv17,.slice none 0 0,.int .i64 0,.int .i64 0,.bool false,.slice none 0 0,.slice none 0 0] 29 (0,0))):=by rw [← hW18];exact set_heap (j:=3) C9.out (.slice pv17 1 cv17)
     have F18:Hid (Fr (fun k=>k=R) w W18):=F9.out.trans G18.out (fun k e=>Or.inr (by omega))
     have S18:Hid (W18.heap[n7]? =_):=G18.out.heap S9.out (fun e=>by omega)
     have X18:Hid (W18.heap[w.heap.size]? =_):=G18.out.heap X9.out (fun e=>by omega)
     have A18:Hid (RdAt m W18 R sz r3):=A9.out.fr G18.out (fun k e=>by omega)
     have y18:N2≤W18.heap.size:=Nat.le_trans y9 G18.out.size
     have M18:Hid (NmsOwn (fun q=>N2≤q) W18 (.slice pv17 1 cv17) [x17]):=M9.out.keep (fun q hq hlt9=>G18.out.block q hlt9 (fun e=>by omega))
     exact ⟨x17,r3,pv17,cv17,hP,F18,S18,B18,X18,A18,y18,M18⟩)
   case rest=>
   obtain ⟨x17,r3,pv17,cv17,hP,F18,S18,B18,X18,A18,y18,M18⟩:=hcut
   rw [hP.out,Rd.bind_ok] at hEQ
   rw [Rd.bind_ok] at hEQ
   have hl17:=rName_shorter hP.out
   obtain ⟨W18,eW18⟩:∃ x,x=wc:=⟨_,rfl⟩
   rw [← eW18] at F18 S18 B18 X18 A18 y18 M18 ⊢
   clear eW18 hP hPc K17 S16 X16 F16 A16 B16 b0 b1 b2 b3 b4 b5 b6 b7 b8 b9 g0 g1 g2 g3 g4 g5 g6 g7 g8 g9 s0 s1 s2 s3 s4 s5 s6 s7 s8 hy17
   obtain ⟨s0,s1,s2,s3,s4,s5,s6,s7,s8⟩:=bx9 S18.out
   obtain ⟨b0,b1,b2,b3,b4,b5,b6,b7,b8,b9⟩:=bx10 B18.out
   obtain ⟨g0,g1,g2,g3,g4,g5,g6,g7,g8,g9⟩:=bz10 B18.out
   have K19:Hid (∀ W:World,Below W18.heap.size W18 W→Calls Tryz.prog 156 #[.pointer (some ⟨R,0,none⟩)] W (RdO m R sz W (fun l v w'=>OwnN W.heap.size v l w') (rList sz r3))):=fun W hW=>CL.out r3 W (A18.out.below hW)
   have hPc:Hid ((∃ er a,rList sz r3=.bad er a)∨∃ x r,rList sz r3=.ok x r):=by
    cases hq:rList sz r3 with
    | bad er a=>exact Or.inl ⟨er,a,rfl⟩
    | ok x r=>exact Or.inr ⟨x,r,rfl⟩
   have HON:Hid (W18.ownsRow N2 9 1 (.slice pv17 1 cv17) 1 [Value.string x17]):=own_baseN M18.out.1 M18.out.2.2
   have hOK:∀ k,(Value.ownBlock (.slice pv17 1 cv17))=some k→N2≤k:=fun k hk=>M18.out.2.2 k hk
   have hy19:N2≤W18.heap.size:=y18
   go_upto_region 8 with fail
   go_cut [] (fun wx=>∃ x19 r4 pv19 cv19,Hid (rList sz r3=.ok x19 r4)∧Hid (Fr (fun k=>k=R) w wx)∧Hid (wx.heap[n7]? =some (.cells #[.string hd,.bool true,.bool true,.bool true,.bool false,.int .i64 ((0:Nat):Int),.int .i64 ((0:Nat):Int),.int .i64 ((1:Nat):Int),.bool false] 82 (0,0)))∧Hid (wx.heap[n7+1]? =some (.cells #[.int .i64 k,.string x13,.int .i64 x15,.slice pv19 (1+x19.length) cv19,.slice none 0 0,.int .i64 0,.int .i64 0,.bool false,.slice none 0 0,.slice none 0 0] 29 (0,0)))∧Hid (wx.heap[w.heap.size]? =some (.cells #[.int .i64 0,.string ⟨#[]⟩,.int .i64 0,.slice none 0 0,.slice none 0 0,.int .i64 0,.int .i64 0,.bool false,.slice none 0 0,.slice none 0 0] 29 (0,0)))∧Hid (RdAt m wx R sz r4)∧N2≤wx.heap.size∧Hid (NmsOwn (fun q=>N2≤q) wx (.slice pv19 (1+x19.length) cv19) ([x17]++x19)))
   case first=>
    go_region_law (first | (go_simp;go_at_call 156;refine (K19.out _ (by go_grown)).mono ?_;intro e w19 q;rcases hPc.out with ⟨er,a,hP⟩ | ⟨x19,r4,hP⟩;(·(rw [hP] at q;obtain ⟨rfl,hF9⟩:=q;refine ⟨rfl, ?_⟩;rw [hEQ.out,hP];exact ⟨rfl,(F18.out.drew).trans hF9 (fun k e=>Or.inl e)⟩));rw [hP] at q;obtain ⟨v9,rfl,hO9,hA9,hF9⟩:=q;obtain ⟨p9,c9,rfl, -⟩:=hO9.cap;have hxl:=list_few A18.out.many hP;have hON:w19.ownsRow N2 9 1 (.slice pv17 1 cv17) 1 [Value.string x17]:=hF9.row (show W18.drew.ownsRow N2 9 1 (.slice pv17 1 cv17) 1 [Value.string x17] from HON.out) (fun k hk e=>by have:=hOK k hk;omega);have z9:N2≤w19.heap.size:=Nat.le_trans hy19 hF9.size;have B9:Hid (w19.heap[n7+1]? =some (.cells #[.int .i64 k,.string x13,.int .i64 x15,.slice pv17 1 cv17,.slice none 0 0,.int .i64 0,.int .i64 0,.bool false,.slice none 0 0,.slice none 0 0] 29 (0,0))):=hF9.heap (show W18.drew.heap[n7+1]? =_ from B18.out) (fun e=>by omega);have b39:=(bx10 B9.out).2.2.2.1;have h71:n7+1<w19.heap.size:=(by omega)) | (refine step_append_srcQ rfl (.tmp 33) (.tmp 35) 22 rfl N2 9 i0 (.string ByteArray.empty) 1 16 Tryz.underlying22 hi hz0 hz1 hz2 rfl (by decide) (.slice pv17 1 cv17) 1 [Value.string x17] (by simp [Act.eval]) hON (.slice p9 x19.length c9) x19.length (x19.map Value.string) (by simp [Act.eval]) (src_names hO9) (by intro u hu;obtain ⟨s, -,rfl⟩:=List.mem_map.1 hu;rfl) (by unfold maxLen;omega) (by omega) (by omega) (fun v' w9 h2 h3=> ?_);have G9:Hid (Fr (fun k=>N2≤k) w19 w9):=(Fr.refl (fun k=>N2≤k) w19).grown h3 (fun k e=>Or.inl (hOK k e));have C9:Hid (w9.heap[n7+1]? =some (.cells #[.int .i64 k,.string x13,.int .i64 x15,.slice pv17 1 cv17,.slice none 0 0,.int .i64 0,.int .i64 0,.bool false,.slice none 0 0,.slice none 0 0] 29 (0,0))):=G9.out.heap B9.out (fun q=>by omega);have O9:Hid (w9.ownsRow N2 9 1 v' (1+x19.length) ([Value.string x17]++x19.map Value.string)):=(by have q:=h2;unfold Hid;simpa using q);obtain ⟨pv19,cv19,rfl⟩:=row_form O9.out;have b49:=(bx10 C9.out).2.2.2.1;have f49:=(bz10 C9.out).2.2.2.1;clear h2 h3))
    all_goals (
     have S9:Hid (w9.heap[n7]? =_):=G9.out.heap (hF9.heap (show W18.drew.heap[n7]? =_ from S18.out) (fun e=>by omega)) (fun q=>by omega)
     have X9:Hid (w9.heap[w.heap.size]? =_):=G9.out.heap (hF9.heap (show W18.drew.heap[w.heap.size]? =_ from X18.out) (fun e=>by omega)) (fun q=>by omega)
     have F9:Hid (Fr (fun k=>k=R) w w9):=((F18.out.drew).trans hF9 (fun k e=>Or.inl e)).trans G9.out (fun k q=>Or.inr (by omega))
     have A9:Hid (RdAt m w9 R sz r4):=hA9.fr G9.out (fun k q=>by omega)
     have y9:N2≤w9.heap.size:=Nat.le_trans z9 G9.out.size
     have M9:Hid (NmsOwn (fun q=>N2≤q) w9 (.slice pv19 (1+x19.length) cv19) ([x17]++x19)):=nms_own9 O9.out (by first | rfl | (simp;done) | (simp;omega)) (by first | rfl | simp) (by first | omega | (simp;done) | (simp;omega))
     go_wp2_with fail
     go_meet
     generalize hW20:World.setCell _ _ _=W20
     have G20:Hid (Fr (fun k=>k=n7+1) w9 W20):=by rw [← hW20];exact (Fr.refl (fun k=>k=n7+1) w9).setCell (p:=⟨n7+1,3,none⟩) (Or.inl rfl) _
     have B20:Hid (W20.heap[n7+1]? =some (.cells #[.int .i64 k,.string x13,.int .i64 x15,.slice pv19 (1+x19.length) cv19,.slice none 0 0,.int .i64 0,.int .i64 0,.bool false,.slice none 0 0,.slice none 0 0] 29 (0,0))):=by rw [← hW20];exact set_heap (j:=3) C9.out (.slice pv19 (1+x19.length) cv19)
     have F20:Hid (Fr (fun k=>k=R) w W20):=F9.out.trans G20.out (fun k e=>Or.inr (by omega))
     have S20:Hid (W20.heap[n7]? =_):=G20.out.heap S9.out (fun e=>by omega)
     have X20:Hid (W20.heap[w.heap.size]? =_):=G20.out.heap X9.out (fun e=>by omega)
     have A20:Hid (RdAt m W20 R sz r4):=A9.out.fr G20.out (fun k e=>by omega)
     have y20:N2≤W20.heap.size:=Nat.le_trans y9 G20.out.size
     have M20:Hid (NmsOwn (fun q=>N2≤q) W20 (.slice pv19 (1+x19.length) cv19) ([x17]++x19)):=M9.out.keep (fun q hq hlt9=>G20.out.block q hlt9 (fun e=>by omega))
     exact ⟨x19,r4,pv19,cv19,hP,F20,S20,B20,X20,A20,y20,M20⟩)
   case rest=>
   obtain ⟨x19,r4,pv19,cv19,hP,F20,S20,B20,X20,A20,y20,M20⟩:=hcut
   rw [hP.out,Rd.bind_ok] at hEQ
   have hl19:=sh_list sz _ _ _ hP.out
   obtain ⟨W20,eW20⟩:∃ x,x=wc:=⟨_,rfl⟩
   rw [← eW20] at F20 S20 B20 X20 A20 y20 M20 ⊢
   clear eW20 hP hPc K19 S18 X18 F18 A18 B18 b0 b1 b2 b3 b4 b5 b6 b7 b8 b9 g0 g1 g2 g3 g4 g5 g6 g7 g8 g9 s0 s1 s2 s3 s4 s5 s6 s7 s8 M18 HON hOK hy19
   obtain ⟨s0,s1,s2,s3,s4,s5,s6,s7,s8⟩:=bx9 S20.out
   have K21:Hid (Calls Tryz.prog 120 #[.pointer (some ⟨R,0,none⟩),.int .i64 ((0:Nat):Int),.bool false,.int .i64 d] W20 (RdO m R sz W20 (fun l v w'=>TmsOwn (fun q=>W20.heap.size≤q) w' v l) (rMany pt false n 0 r4))):=CT.out r4 W20 (by omega) A20.out
   cases hP21:rMany pt false n 0 r4 with
   | bad er a=>
    rw [hP21] at K21 hEQ
    go_wp2_with fail
    refine K21.out.mono ?_
    rintro e w9 ⟨rfl,hF9⟩
    refine ⟨rfl, ?_⟩
    rw [hEQ.out]
    exact ⟨rfl,F20.out.trans hF9 (fun k e=>Or.inl e)⟩
   | ok x21 r6=>
    rw [hP21,Rd.bind_ok] at hEQ
    rw [hP21] at K21
    have hl21:=STm.out _ _ _ _ hP21
    clear hP21
    go_wp2_with fail
    refine K21.out.mono ?_
    rintro e w21 ⟨v21,rfl,hQ9,hA9,hF9⟩
    have O210:Hid (TmsOwn (fun q=>N2≤q) w21 v21 x21):=hQ9.mono (fun q hq _=>by omega)
    obtain ⟨p21,c21,rfl, -⟩:=hQ9.at.form
    obtain ⟨l21,el21⟩:∃ y,Hid (x21.length=y):=⟨_,rfl⟩
    rw [el21.out] at O210 ⊢
    clear hQ9
    have F21:Hid (Fr (fun k=>k=R) w w21):=F20.out.trans hF9 (fun k e=>Or.inl e)
    have S21:Hid (w21.heap[n7]? =_):=hF9.heap S20.out (fun e=>by omega)
    have B21:Hid (w21.heap[n7+1]? =_):=hF9.heap B20.out (fun e=>by omega)
    have X21:Hid (w21.heap[w.heap.size]? =_):=hF9.heap X20.out (fun e=>by omega)
    have A21:Hid (RdAt m w21 R sz r6):=hA9
    have y21:N2≤w21.heap.size:=Nat.le_trans y20 hF9.size
    have M2120:Hid (NmsOwn (fun q=>N2≤q) w21 (.slice pv19 (1+x19.length) cv19) ([x17]++x19)):=M20.out.keep (fun q hq hlt9=>hF9.block q hlt9 (fun e=>by omega))
    clear hF9 hA9 K21 F20 S20 B20 X20 A20 s0 s1 s2 s3 s4 s5 s6 s7 s8 M20
    obtain ⟨b0,b1,b2,b3,b4,b5,b6,b7,b8,b9⟩:=bx10 B21.out
    obtain ⟨g0,g1,g2,g3,g4,g5,g6,g7,g8,g9⟩:=bz10 B21.out
    go_upto_region 12 with fail
    refine wp_world ?_
    intro W22 hW22
    have G22:Hid (Fr (fun k=>k=n7+1) w21 W22):=by rw [hW22];exact (Fr.refl (fun k=>k=n7+1) w21).setCell (p:=⟨n7+1,4,none⟩) (Or.inl rfl) _
    have B22:Hid (W22.heap[n7+1]? =some (.cells #[.int .i64 k,.string x13,.int .i64 x15,.slice pv19 (1+x19.length) cv19,.slice p21 l21 c21,.int .i64 0,.int .i64 0,.bool false,.slice none 0 0,.slice none 0 0] 29 (0,0))):=by rw [hW22];exact (set_heap (j:=4) B21.out (.slice p21 l21 c21))
    clear hW22
    have F22:Hid (Fr (fun k=>k=R) w W22):=F21.out.trans G22.out (fun k e=>Or.inr (by omega))
    have S22:Hid (W22.heap[n7]? =_):=G22.out.heap S21.out (fun e=>by omega)
    have X22:Hid (W22.heap[w.heap.size]? =_):=G22.out.heap X21.out (fun e=>by omega)
    have A22:Hid (RdAt m W22 R sz r6):=A21.out.fr G22.out (fun k e=>by omega)
    have y22:N2≤W22.heap.size:=Nat.le_trans y21 G22.out.size
    have M222120:Hid (NmsOwn (fun q=>N2≤q) W22 (.slice pv19 (1+x19.length) cv19) ([x17]++x19)):=M2120.out.keep (fun q hq hlt9=>G22.out.block q hlt9 (fun e=>by omega))
    have O22210:Hid (TmsOwn (fun q=>N2≤q) W22 (.slice p21 l21 c21) x21):=O210.out.keep (fun q hq hlt9=>G22.out.block q hlt9 (fun e=>by omega))
    clear G22 F21 S21 B21 X21 A21 b0 b1 b2 b3 b4 b5 b6 b7 b8 b9 g0 g1 g2 g3 g4 g5 g6 g7 g8 g9 M2120 O210
    obtain ⟨s0,s1,s2,s3,s4,s5,s6,s7,s8⟩:=bx9 S22.out
    have K23:Hid (Calls Tryz.prog 158 #[.pointer (some ⟨R,0,none⟩),.int .i64 ((0:Nat):Int),.int .i64 d] W22 (RdO m R sz W22 (fun l v w'=>RxsOwn (fun q=>W22.heap.size≤q) w' v l) (rMany pr false n 0 r6))):=CR.out r6 W22 (by omega) A22.out
    cases hP23:rMany pr false n 0 r6 with
    | bad er a=>
     rw [hP23] at K23 hEQ
     go_wp2_with fail
     refine K23.out.mono ?_
     rintro e w9 ⟨rfl,hF9⟩
     refine ⟨rfl, ?_⟩
     rw [hEQ.out]
     exact ⟨rfl,F22.out.trans hF9 (fun k e=>Or.inl e)⟩
    | ok x23 r7=>
     rw [hP23,Rd.bind_ok] at hEQ
     rw [hP23] at K23
     have hl23:=SRm.out _ _ _ _ hP23
     clear hP23
     go_wp2_with fail
     refine K23.out.mono ?_
     rintro e w23 ⟨v23,rfl,hQ9,hA9,hF9⟩
     have O230:Hid (RxsOwn (fun q=>N2≤q) w23 v23 x23):=hQ9.mono (fun q hq _=>by omega)
     obtain ⟨p23,c23,rfl, -⟩:=hQ9.at.form
     obtain ⟨l23,el23⟩:∃ y,Hid (x23.length=y):=⟨_,rfl⟩
     rw [el23.out] at O230 ⊢
     clear hQ9
     have F23:Hid (Fr (fun k=>k=R) w w23):=F22.out.trans hF9 (fun k e=>Or.inl e)
     have S23:Hid (w23.heap[n7]? =_):=hF9.heap S22.out (fun e=>by omega)
     have B23:Hid (w23.heap[n7+1]? =_):=hF9.heap B22.out (fun e=>by omega)
     have X23:Hid (w23.heap[w.heap.size]? =_):=hF9.heap X22.out (fun e=>by omega)
     have A23:Hid (RdAt m w23 R sz r7):=hA9
     have y23:N2≤w23.heap.size:=Nat.le_trans y22 hF9.size
     have M23222120:Hid (NmsOwn (fun q=>N2≤q) w23 (.slice pv19 (1+x19.length) cv19) ([x17]++x19)):=M222120.out.keep (fun q hq hlt9=>hF9.block q hlt9 (fun e=>by omega))
     have O2322210:Hid (TmsOwn (fun q=>N2≤q) w23 (.slice p21 l21 c21) x21):=O22210.out.keep (fun q hq hlt9=>hF9.block q hlt9 (fun e=>by omega))
     clear hF9 hA9 K23 F22 S22 B22 X22 A22 s0 s1 s2 s3 s4 s5 s6 s7 s8 M222120 O22210
     obtain ⟨b0,b1,b2,b3,b4,b5,b6,b7,b8,b9⟩:=bx10 B23.out
     obtain ⟨g0,g1,g2,g3,g4,g5,g6,g7,g8,g9⟩:=bz10 B23.out
     go_upto_region 13 with fail
     refine wp_world ?_
     intro W24 hW24
     have G24:Hid (Fr (fun k=>k=n7+1) w23 W24):=by rw [hW24];exact (Fr.refl (fun k=>k=n7+1) w23).setCell (p:=⟨n7+1,9,none⟩) (Or.inl rfl) _
     have B24:Hid (W24.heap[n7+1]? =some (.cells #[.int .i64 k,.string x13,.int .i64 x15,.slice pv19 (1+x19.length) cv19,.slice p21 l21 c21,.int .i64 0,.int .i64 0,.bool false,.slice none 0 0,.slice p23 l23 c23] 29 (0,0))):=by rw [hW24];exact (set_heap (j:=9) B23.out (.slice p23 l23 c23))
     clear hW24
     have F24:Hid (Fr (fun k=>k=R) w W24):=F23.out.trans G24.out (fun k e=>Or.inr (by omega))
     have S24:Hid (W24.heap[n7]? =_):=G24.out.heap S23.out (fun e=>by omega)
     have X24:Hid (W24.heap[w.heap.size]? =_):=G24.out.heap X23.out (fun e=>by omega)
     have A24:Hid (RdAt m W24 R sz r7):=A23.out.fr G24.out (fun k e=>by omega)
     have y24:N2≤W24.heap.size:=Nat.le_trans y23 G24.out.size
     have M2423222120:Hid (NmsOwn (fun q=>N2≤q) W24 (.slice pv19 (1+x19.length) cv19) ([x17]++x19)):=M23222120.out.keep (fun q hq hlt9=>G24.out.block q hlt9 (fun e=>by omega))
     have O242322210:Hid (TmsOwn (fun q=>N2≤q) W24 (.slice p21 l21 c21) x21):=O2322210.out.keep (fun q hq hlt9=>G24.out.block q hlt9 (fun e=>by omega))
     have O24230:Hid (RxsOwn (fun q=>N2≤q) W24 (.slice p23 l23 c23) x23):=O230.out.keep (fun q hq hlt9=>G24.out.block q hlt9 (fun e=>by omega))
     clear G24 F23 S23 B23 X23 A23 b0 b1 b2 b3 b4 b5 b6 b7 b8 b9 g0 g1 g2 g3 g4 g5 g6 g7 g8 g9 M23222120 O2322210 O230
     obtain ⟨s0,s1,s2,s3,s4,s5,s6,s7,s8⟩:=bx9 S24.out
     have K25:Hid (Calls Tryz.prog 159 #[.pointer (some ⟨R,0,none⟩),.int .i64 ((1:Nat):Int),.bool false,.int .i64 d] W24 (RdO m R sz W24 (fun l v w'=>FmsOwn (fun q=>W24.heap.size≤q) w' v l) (rMany pf false n 1 r7))):=CF.out r7 W24 (by omega) A24.out
     cases hP25:rMany pf false n 1 r7 with
     | bad er a=>
      rw [hP25] at K25 hEQ
      go_wp2_with fail
      refine K25.out.mono ?_
      rintro e w9 ⟨rfl,hF9⟩
      refine ⟨rfl, ?_⟩
      rw [hEQ.out]
      exact ⟨rfl,F24.out.trans hF9 (fun k e=>Or.inl e)⟩
     | ok x25 r8=>
      rw [hP25,Rd.bind_ok] at hEQ
      rw [hP25] at K25
      clear hP25
      go_wp2_with fail
      refine K25.out.mono ?_
      rintro e w25 ⟨v25,rfl,hQ9,hA9,hF9⟩
      have O250:Hid (FmsOwn (fun q=>N2≤q) w25 v25 x25):=hQ9.mono (fun q hq _=>by omega)
      obtain ⟨p25,c25,rfl, -⟩:=hQ9.at.form
      obtain ⟨l25,el25⟩:∃ y,Hid (x25.length=y):=⟨_,rfl⟩
      rw [el25.out] at O250 ⊢
      clear hQ9
      have F25:Hid (Fr (fun k=>k=R) w w25):=F24.out.trans hF9 (fun k e=>Or.inl e)
      have S25:Hid (w25.heap[n7]? =_):=hF9.heap S24.out (fun e=>by omega)
      have B25:Hid (w25.heap[n7+1]? =_):=hF9.heap B24.out (fun e=>by omega)
      have X25:Hid (w25.heap[w.heap.size]? =_):=hF9.heap X24.out (fun e=>by omega)
      have A25:Hid (RdAt m w25 R sz r8):=hA9
      have y25:N2≤w25.heap.size:=Nat.le_trans y24 hF9.size
      have M252423222120:Hid (NmsOwn (fun q=>N2≤q) w25 (.slice pv19 (1+x19.length) cv19) ([x17]++x19)):=M2423222120.out.keep (fun q hq hlt9=>hF9.block q hlt9 (fun e=>by omega))
      have O25242322210:Hid (TmsOwn (fun q=>N2≤q) w25 (.slice p21 l21 c21) x21):=O242322210.out.keep (fun q hq hlt9=>hF9.block q hlt9 (fun e=>by omega))
      have O2524230:Hid (RxsOwn (fun q=>N2≤q) w25 (.slice p23 l23 c23) x23):=O24230.out.keep (fun q hq hlt9=>hF9.block q hlt9 (fun e=>by omega))
      clear hF9 hA9 K25 F24 S24 B24 X24 A24 s0 s1 s2 s3 s4 s5 s6 s7 s8 M2423222120 O242322210 O24230
      obtain ⟨b0,b1,b2,b3,b4,b5,b6,b7,b8,b9⟩:=bx10 B25.out
      obtain ⟨g0,g1,g2,g3,g4,g5,g6,g7,g8,g9⟩:=bz10 B25.out
      go_upto_region 14 with fail
      refine wp_world ?_
      intro W26 hW26
      have G26:Hid (Fr (fun k=>k=n7+1) w25 W26):=by rw [hW26];exact (Fr.refl (fun k=>k=n7+1) w25).setCell (p:=⟨n7+1,8,none⟩) (Or.inl rfl) _
      have B26:Hid (W26.heap[n7+1]? =some (.cells #[.int .i64 k,.string x13,.int .i64 x15,.slice pv19 (1+x19.length) cv19,.slice p21 l21 c21,.int .i64 0,.int .i64 0,.bool false,.slice p25 l25 c25,.slice p23 l23 c23] 29 (0,0))):=by rw [hW26];exact (set_heap (j:=8) B25.out (.slice p25 l25 c25))
      clear hW26
      have F26:Hid (Fr (fun k=>k=R) w W26):=F25.out.trans G26.out (fun k e=>Or.inr (by omega))
      have S26:Hid (W26.heap[n7]? =_):=G26.out.heap S25.out (fun e=>by omega)
      have X26:Hid (W26.heap[w.heap.size]? =_):=G26.out.heap X25.out (fun e=>by omega)
      have A26:Hid (RdAt m W26 R sz r8):=A25.out.fr G26.out (fun k e=>by omega)
      have y26:N2≤W26.heap.size:=Nat.le_trans y25 G26.out.size
      have M26252423222120:Hid (NmsOwn (fun q=>N2≤q) W26 (.slice pv19 (1+x19.length) cv19) ([x17]++x19)):=M252423222120.out.keep (fun q hq hlt9=>G26.out.block q hlt9 (fun e=>by omega))
      have O2625242322210:Hid (TmsOwn (fun q=>N2≤q) W26 (.slice p21 l21 c21) x21):=O25242322210.out.keep (fun q hq hlt9=>G26.out.block q hlt9 (fun e=>by omega))
      have O262524230:Hid (RxsOwn (fun q=>N2≤q) W26 (.slice p23 l23 c23) x23):=O2524230.out.keep (fun q hq hlt9=>G26.out.block q hlt9 (fun e=>by omega))
      have O26250:Hid (FmsOwn (fun q=>N2≤q) W26 (.slice p25 l25 c25) x25):=O250.out.keep (fun q hq hlt9=>G26.out.block q hlt9 (fun e=>by omega))
      clear G26 F25 S25 B25 X25 A25 b0 b1 b2 b3 b4 b5 b6 b7 b8 b9 g0 g1 g2 g3 g4 g5 g6 g7 g8 g9 M252423222120 O25242322210 O2524230 O250
      obtain ⟨b0,b1,b2,b3,b4,b5,b6,b7,b8,b9⟩:=bx10 B26.out
      obtain ⟨r0,r1,r2,r3,r4,r5,r6,r7,r8,r9⟩:=bx10 X26.out
      obtain ⟨q0,q1,q2,q3,q4,q5,q6,q7,q8,q9⟩:=bz10 X26.out
      go_wp2
      generalize hW9:World.setCell _ _ _=W9
      have X9:W9.heap[w.heap.size]? =some (.cells #[.int .i64 k,.string x13,.int .i64 x15,.slice pv19 (1+x19.length) cv19,.slice p21 l21 c21,.int .i64 0,.int .i64 0,.bool false,.slice p25 l25 c25,.slice p23 l23 c23] 29 (0,0)):=by rw [← hW9];exact put10 X26.out
      have F9:Fr (fun k=>k=R) w W9:=by rw [← hW9];exact frp10 F26.out (Or.inr (Nat.le_refl _)) _ _ _ _ _ _ _ _ _ _
      have G9:Fr (fun k=>k=w.heap.size) W26 W9:=by rw [← hW9];exact frp10 (Fr.refl (fun k=>k=w.heap.size) W26) (Or.inl rfl) _ _ _ _ _ _ _ _ _ _
      clear hW9
      obtain ⟨oc0,oc1,oc2,oc3,oc4,oc5,oc6,oc7,oc8,oc9⟩:=bx10 X9
      refine bodyPost_ret (by simp [results,Tryz.results121,go_sem,oc0,oc1,oc2,oc3,oc4,oc5,oc6,oc7,oc8,oc9];try rfl) rfl ?_
      rw [hEQ.out]
      exact ⟨_,rfl,⟨⟨(.slice pv19 (1+x19.length) cv19),(.slice p21 l21 c21),(.slice p25 l25 c25),(.slice p23 l23 c23)⟩,rfl,⟨(M26252423222120.out.keep (w':=W9) (fun q hq hlt9=>G9.block q hlt9 (fun e=>by omega))).mono (fun q hq _=>by omega),(O2625242322210.out.keep (w':=W9) (fun q hq hlt9=>G9.block q hlt9 (fun e=>by omega))).mono (fun q hq _=>by omega),(O26250.out.keep (w':=W9) (fun q hq hlt9=>G9.block q hlt9 (fun e=>by omega))).mono (fun q hq _=>by omega),(O262524230.out.keep (w':=W9) (fun q hq hlt9=>G9.block q hlt9 (fun e=>by omega))).mono (fun q hq _=>by omega)⟩⟩,A26.out.fr G9 (fun k e=>by omega),F9⟩
theorem shaped_any (m R sz N:Nat) (ts:List (Tok Val)) (d k:Int) (w:World) (h:RdAt m w R sz ts) (n:Nat) (pt:List (Tok Val)→Rd Tm) (pf:List (Tok Val)→Rd Fm) (pr:List (Tok Val)→Rd Rx) (hst:Shr pt) (hsr:Shr pr) (hN:ts.length≤N) (hk1:4≤k) (hk2:k≤22)
  (HT:∀ (kk:Nat) (rr:List (Tok Val)) (W:World),rr.length≤N→RdAt m W R sz rr→Calls Tryz.prog 120 #[.pointer (some ⟨R,0,none⟩),.int .i64 ((kk:Nat):Int),.bool false,.int .i64 d] W (RdO m R sz W (fun l v w'=>TmsOwn (fun q=>W.heap.size≤q) w' v l) (rMany pt false n kk rr)))
  (HR:∀ (kk:Nat) (rr:List (Tok Val)) (W:World),rr.length≤N→RdAt m W R sz rr→Calls Tryz.prog 158 #[.pointer (some ⟨R,0,none⟩),.int .i64 ((kk:Nat):Int),.int .i64 d] W (RdO m R sz W (fun l v w'=>RxsOwn (fun q=>W.heap.size≤q) w' v l) (rMany pr false n kk rr)))
  (HF:∀ (kk:Nat) (more:Bool) (rr:List (Tok Val)) (W:World),rr.length≤N→RdAt m W R sz rr→Calls Tryz.prog 159 #[.pointer (some ⟨R,0,none⟩),.int .i64 ((kk:Nat):Int),.bool more,.int .i64 d] W (RdO m R sz W (fun l v w'=>FmsOwn (fun q=>W.heap.size≤q) w' v l) (rMany pf more n kk rr))):Calls Tryz.prog 121 #[.pointer (some ⟨R,0,none⟩),.int .i64 k,.int .i64 d] w (RdO m R sz w (FmV w) (pShaped sz n pt pf pr k ts)):=by
 by_cases e4:k=4
 ·subst e4;exact shaped_plain (nt:=2) (nr:=0) (ns:=0) (mm:=false) m R sz N ts d 4 _ w h n pt pf pr hst hsr hN (by omega) (by omega) rfl rfl HT HR HF
 by_cases e5:k=5
 ·subst e5;exact shaped_plain (nt:=2) (nr:=0) (ns:=0) (mm:=false) m R sz N ts d 5 _ w h n pt pf pr hst hsr hN (by omega) (by omega) rfl rfl HT HR HF
 by_cases e6:k=6
 ·subst e6;exact shaped_plain (nt:=2) (nr:=0) (ns:=0) (mm:=false) m R sz N ts d 6 _ w h n pt pf pr hst hsr hN (by omega) (by omega) rfl rfl HT HR HF
 by_cases e7:k=7
 ·subst e7;exact shaped_plain (nt:=0) (nr:=0) (ns:=1) (mm:=false) m R sz N ts d 7 _ w h n pt pf pr hst hsr hN (by omega) (by omega) rfl rfl HT HR HF
 by_cases e8:k=8
 ·subst e8;exact shaped_plain (nt:=0) (nr:=0) (ns:=2) (mm:=false) m R sz N ts d 8 _ w h n pt pf pr hst hsr hN (by omega) (by omega) rfl rfl HT HR HF
 by_cases e9:k=9
 ·subst e9;exact shaped_plain (nt:=0) (nr:=0) (ns:=2) (mm:=false) m R sz N ts d 9 _ w h n pt pf pr hst hsr hN (by omega) (by omega) rfl rfl HT HR HF
 by_cases e10:k=10
 ·subst e10;exact shaped_ex m R sz N ts d 10 _ w h n pt pf pr hst hsr hN (by omega) (by omega) rfl rfl HT HR HF
 by_cases e11:k=11
 ·subst e11;exact shaped_timed (nt:=0) (nr:=0) (ns:=1) (mm:=false) m R sz N ts d 11 _ w h n pt pf pr hst hsr hN (by omega) (by omega) rfl rfl HT HR HF
 by_cases e12:k=12
 ·subst e12;exact shaped_timed (nt:=0) (nr:=0) (ns:=1) (mm:=false) m R sz N ts d 12 _ w h n pt pf pr hst hsr hN (by omega) (by omega) rfl rfl HT HR HF
 by_cases e13:k=13
 ·subst e13;exact shaped_timed (nt:=0) (nr:=0) (ns:=1) (mm:=false) m R sz N ts d 13 _ w h n pt pf pr hst hsr hN (by omega) (by omega) rfl rfl HT HR HF
 by_cases e14:k=14
 ·subst e14;exact shaped_timed (nt:=0) (nr:=0) (ns:=1) (mm:=false) m R sz N ts d 14 _ w h n pt pf pr hst hsr hN (by omega) (by omega) rfl rfl HT HR HF
 by_cases e15:k=15
 ·subst e15;exact shaped_timed (nt:=0) (nr:=0) (ns:=2) (mm:=false) m R sz N ts d 15 _ w h n pt pf pr hst hsr hN (by omega) (by omega) rfl rfl HT HR HF
 by_cases e16:k=16
 ·subst e16;exact shaped_timed (nt:=0) (nr:=0) (ns:=2) (mm:=false) m R sz N ts d 16 _ w h n pt pf pr hst hsr hN (by omega) (by omega) rfl rfl HT HR HF
 by_cases e17:k=17
 ·subst e17;exact shaped_timed (nt:=0) (nr:=1) (ns:=0) (mm:=false) m R sz N ts d 17 _ w h n pt pf pr hst hsr hN (by omega) (by omega) rfl rfl HT HR HF
 by_cases e18:k=18
 ·subst e18;exact shaped_timed (nt:=0) (nr:=1) (ns:=0) (mm:=false) m R sz N ts d 18 _ w h n pt pf pr hst hsr hN (by omega) (by omega) rfl rfl HT HR HF
 by_cases e19:k=19
 ·subst e19;exact shaped_agg m R sz N ts d 19 _ w h n pt pf pr hst hsr hN (by omega) (by omega) rfl rfl HT HR HF
 by_cases e20:k=20
 ·subst e20;exact shaped_let m R sz N ts d 20 _ w h n pt pf pr hst hsr hN (by omega) (by omega) rfl rfl HT HR HF
 by_cases e21:k=21
 ·subst e21;exact shaped_let m R sz N ts d 21 _ w h n pt pf pr hst hsr hN (by omega) (by omega) rfl rfl HT HR HF
 by_cases e22:k=22
 ·subst e22;exact shaped_plain (nt:=0) (nr:=0) (ns:=1) (mm:=true) m R sz N ts d 22 _ w h n pt pf pr hst hsr hN (by omega) (by omega) rfl rfl HT HR HF
 omega
theorem headed_any (m R sz N:Nat) (ts:List (Tok Val)) (d:Int) (w:World) (h:RdAt m w R sz ts) (n:Nat) (pt:List (Tok Val)→Rd Tm) (pf:List (Tok Val)→Rd Fm) (pr:List (Tok Val)→Rd Rx) (hst:Shr pt) (hsr:Shr pr) (hN:ts.length≤N)
  (HT0:∀ (rr:List (Tok Val)) (W:World),rr.length≤N→RdAt m W R sz rr→Calls Tryz.prog 120 #[.pointer (some ⟨R,0,none⟩),.int .i64 ((0:Nat):Int),.bool true,.int .i64 d] W (RdO m R sz W (fun l v w'=>TmsOwn (fun q=>W.heap.size≤q) w' v l) (rMany pt true n 0 rr)))
  (HT:∀ (kk:Nat) (rr:List (Tok Val)) (W:World),rr.length≤N→RdAt m W R sz rr→Calls Tryz.prog 120 #[.pointer (some ⟨R,0,none⟩),.int .i64 ((kk:Nat):Int),.bool false,.int .i64 d] W (RdO m R sz W (fun l v w'=>TmsOwn (fun q=>W.heap.size≤q) w' v l) (rMany pt false n kk rr)))
  (HR:∀ (kk:Nat) (rr:List (Tok Val)) (W:World),rr.length≤N→RdAt m W R sz rr→Calls Tryz.prog 158 #[.pointer (some ⟨R,0,none⟩),.int .i64 ((kk:Nat):Int),.int .i64 d] W (RdO m R sz W (fun l v w'=>RxsOwn (fun q=>W.heap.size≤q) w' v l) (rMany pr false n kk rr)))
  (HF:∀ (kk:Nat) (more:Bool) (rr:List (Tok Val)) (W:World),rr.length≤N→RdAt m W R sz rr→Calls Tryz.prog 159 #[.pointer (some ⟨R,0,none⟩),.int .i64 ((kk:Nat):Int),.bool more,.int .i64 d] W (RdO m R sz W (fun l v w'=>FmsOwn (fun q=>W.heap.size≤q) w' v l) (rMany pf more n kk rr))):Calls Tryz.prog 75 #[.pointer (some ⟨R,0,none⟩),.int .i64 d] w (RdO m R sz w (FmV w) (pHead sz n pt pf pr ts)):=by
 obtain ⟨u,hu,hT,hlu⟩:=pHead_eq sz n pt pf pr ts
 rw [hu]
 have hlN:u.length≤N:=by omega
 cases hb:nameB (txB (tkH sz ts)) with
 | true=>
  have hx:(tkH sz ts).x≠[]:=fun e=>by
   have e2:txB (tkH sz ts)=⟨#[]⟩:=by unfold txB;rw [e]
   rw [e2,nameB_nil] at hb
   cases hb
  obtain ⟨t,ht⟩:=hT hx
  rw [if_pos rfl]
  exact headed_name m R sz ts d w h n pt hb t u ht (fun W hW=>HT0 u W hlN hW)
 | false=>
  rw [if_neg (by simp)]
  refine headed_word m R sz ts d w h n pt pf pr hb u (fun ⟨k,e⟩=>hT (fun hx=> ?_)) (fun kk W h4 h22 hW=>shaped_any m R sz N u d kk W hW n pt pf pr hst hsr hlN h4 h22 HT HR HF)
  rw [hx] at e
  revert e
  have hn:kindIn hdF [] 4 19=none:=rfl
  rw [hn]
  intro e
  cases e
theorem headR_any (m R sz N:Nat) (ts:List (Tok Val)) (d:Int) (w:World) (h:RdAt m w R sz ts) (n:Nat) (pf:List (Tok Val)→Rd Fm) (pr:List (Tok Val)→Rd Rx) (hN:ts.length≤N)
  (HR:∀ (kk:Nat) (rr:List (Tok Val)) (W:World),rr.length≤N→RdAt m W R sz rr→Calls Tryz.prog 158 #[.pointer (some ⟨R,0,none⟩),.int .i64 ((kk:Nat):Int),.int .i64 d] W (RdO m R sz W (fun l v w'=>RxsOwn (fun q=>W.heap.size≤q) w' v l) (rMany pr false n kk rr)))
  (HF:∀ (kk:Nat) (more:Bool) (rr:List (Tok Val)) (W:World),rr.length≤N→RdAt m W R sz rr→Calls Tryz.prog 159 #[.pointer (some ⟨R,0,none⟩),.int .i64 ((kk:Nat):Int),.bool more,.int .i64 d] W (RdO m R sz W (fun l v w'=>FmsOwn (fun q=>W.heap.size≤q) w' v l) (rMany pf more n kk rr))):
  Calls Tryz.prog 225 #[.pointer (some ⟨R,0,none⟩),.int .i64 d] w (RdO m R sz w (RxV w) (pHeadR sz n pf pr ts)):=by
 obtain ⟨u,hu,hT⟩:=pHeadR_eq sz n pf pr ts
 rw [hu]
 have hlu:(tkH sz ts).x≠[]→u.length≤N:=fun hx=>by
  obtain ⟨t,ht⟩:=hT hx
  rw [ht] at hN
  simp at hN
  omega
 by_cases h2:(tkH sz ts).x=hdR 2
 ·have hx:(tkH sz ts).x≠[]:=by rw [h2];decide
  obtain ⟨t,ht⟩:=hT hx
  rw [if_pos h2]
  exact headR_2 m R sz ts d w h n pf h2 t u ht (fun W hW=>HF 1 false u W (hlu hx) hW)
 rw [if_neg h2]
 by_cases h3:(tkH sz ts).x=hdR 3
 ·have hx:(tkH sz ts).x≠[]:=by rw [h3];decide
  obtain ⟨t,ht⟩:=hT hx
  rw [if_pos h3]
  exact headR_3 m R sz ts d w h n pr h3 t u ht (fun W hW=>HR 2 u W (hlu hx) hW)
 rw [if_neg h3]
 by_cases h4:(tkH sz ts).x=hdR 4
 ·have hx:(tkH sz ts).x≠[]:=by rw [h4];decide
  obtain ⟨t,ht⟩:=hT hx
  rw [if_pos h4]
  exact headR_4 m R sz ts d w h n pr h4 t u ht (fun W hW=>HR 2 u W (hlu hx) hW)
 rw [if_neg h4]
 by_cases h5:(tkH sz ts).x=hdR 5
 ·have hx:(tkH sz ts).x≠[]:=by rw [h5];decide
  obtain ⟨t,ht⟩:=hT hx
  rw [if_pos h5]
  exact headR_5 m R sz ts d w h n pr h5 t u ht (fun W hW=>HR 1 u W (hlu hx) hW)
 rw [if_neg h5]
 exact headR_none m R sz ts d w h h2 h3 h4 h5
theorem FR_any (m R sz:Nat):∀ n:Nat,(∀ (d:Int) (ts:List (Tok Val)) (w:World),ts.length<n→0≤d→d≤25→RdAt m w R sz ts→Calls Tryz.prog 31 #[.pointer (some ⟨R,0,none⟩),.int .i64 d] w (RdO m R sz w (FmV w) ((pFR sz n).1 d ts)))∧(∀ (d:Int) (ts:List (Tok Val)) (w:World),ts.length<n→0≤d→d≤25→RdAt m w R sz ts→Calls Tryz.prog 188 #[.pointer (some ⟨R,0,none⟩),.int .i64 d] w (RdO m R sz w (RxV w) ((pFR sz n).2 d ts)))
 | 0=>⟨fun d ts w hn=>absurd hn (Nat.not_lt_zero _),fun d ts w hn=>absurd hn (Nat.not_lt_zero _)⟩
 | n+1=>by
  have ih:=FR_any m R sz n
  have HT:∀ (d:Int),0≤d→d≤25→∀ (kk:Nat) (more:Bool) (rr:List (Tok Val)) (W:World),rr.length<n→RdAt m W R sz rr→Calls Tryz.prog 120 #[.pointer (some ⟨R,0,none⟩),.int .i64 kk,.bool more,.int .i64 d] W (RdO m R sz W (fun l v w'=>TmsOwn (fun q=>W.heap.size≤q) w' v l) (rMany (pT sz n d) more n kk rr)):=fun d h0 h1 kk more rr W hr hW=>rterms_any m R sz n kk d more rr W hr h0 h1 hW
  have HF:∀ (d:Int),0≤d→d≤25→∀ (kk:Nat) (more:Bool) (rr:List (Tok Val)) (W:World),rr.length<n→RdAt m W R sz rr→Calls Tryz.prog 159 #[.pointer (some ⟨R,0,none⟩),.int .i64 ((kk:Nat):Int),.bool more,.int .i64 d] W (RdO m R sz W (fun l v w'=>FmsOwn (fun q=>W.heap.size≤q) w' v l) (rMany ((pFR sz n).1 d) more n kk rr)):=fun d h0 h1 kk more rr W hr hW=>formulas_step m R sz rr.length d ((pFR sz n).1 d) (shr_FR sz n d).1 (fun ts' W' hl hW'=>ih.1 d ts' W' (by omega) h0 h1 hW') more n kk rr W (Nat.le_refl _) hr hW
  have HR:∀ (d:Int),0≤d→d≤25→∀ (kk:Nat) (rr:List (Tok Val)) (W:World),rr.length<n→RdAt m W R sz rr→Calls Tryz.prog 158 #[.pointer (some ⟨R,0,none⟩),.int .i64 ((kk:Nat):Int),.int .i64 d] W (RdO m R sz W (fun l v w'=>RxsOwn (fun q=>W.heap.size≤q) w' v l) (rMany ((pFR sz n).2 d) false n kk rr)):=fun d h0 h1 kk rr W hr hW=>regexes_step m R sz rr.length d ((pFR sz n).2 d) (shr_FR sz n d).2 (fun ts' W' hl hW'=>ih.2 d ts' W' (by omega) h0 h1 hW') n kk rr W (Nat.le_refl _) hr hW
  have deepK:∀ (d:Int) (ts:List (Tok Val)) (w:World),RdAt m w R sz ts→(tkH sz ts).x≠[]→(∀ t u,ts=t::u→(tkH sz ts).k≠0):=fun d ts w h hx t u ht=>by
   rw [ht]
   exact (h.ok t (by rw [ht];simp)).2.1
  constructor
  ·intro d ts w hn h0 h1 h
   by_cases hd:24<d∧(tkH sz ts).k≠0
   ·have e:(pFR sz (n+1)).1 d ts=.bad 71 (tkH sz ts).at_:=pForm_deep sz n _ _ _ d ts hd
    rw [e]
    exact formula_deep m R sz ts d w h hd
   obtain ⟨u,hu,hT⟩:=pForm_eq sz n (pT sz n (d+1)) ((pFR sz n).1 (d+1)) ((pFR sz n).2 (d+1)) d ts hd h.ok
   have e:(pFR sz (n+1)).1 d ts=_:=hu
   rw [e]
   by_cases h2:(tkH sz ts).x=[116,114,117,101]
   ·obtain ⟨t,ht⟩:=hT (by rw [h2];decide)
    rw [if_pos h2]
    exact formula_true m R sz ts d w h hd h2 t u ht
   rw [if_neg h2]
   by_cases h3:(tkH sz ts).x=[102,97,108,115,101]
   ·obtain ⟨t,ht⟩:=hT (by rw [h3];decide)
    rw [if_pos h3]
    exact formula_false m R sz ts d w h hd h3 t u ht
   rw [if_neg h3]
   by_cases h4:(tkH sz ts).x=[40]
   ·have hx:(tkH sz ts).x≠[]:=by rw [h4];decide
    obtain ⟨t,ht⟩:=hT hx
    rw [if_pos h4]
    have hk0:=deepK d ts w h hx t u ht
    have hd2:d≤24:=by
     by_cases h24:24<d
     ·exact absurd ⟨h24,hk0⟩ hd
     ·omega
    have hlu:u.length+1≤n:=by rw [ht] at hn;simp at hn;omega
    exact formula_open m R sz ts d w h _ hd h0 (by omega) h2 h3 h4 t u ht (fun W hW=>headed_any m R sz u.length u (d+1) W hW n _ _ _ (shr_T sz n (d+1)) (shr_FR sz n (d+1)).2 (Nat.le_refl _) (fun rr W hl hW=>HT (d+1) (by omega) (by omega) 0 true rr W (by omega) hW) (fun kk rr W hl hW=>HT (d+1) (by omega) (by omega) kk false rr W (by omega) hW) (fun kk rr W hl hW=>HR (d+1) (by omega) (by omega) kk rr W (by omega) hW) (fun kk more rr W hl hW=>HF (d+1) (by omega) (by omega) kk more rr W (by omega) hW))
   rw [if_neg h4]
   exact formula_none m R sz ts d w h hd h2 h3 h4
  ·intro d ts w hn h0 h1 h
   by_cases hd:24<d∧(tkH sz ts).k≠0
   ·have e:(pFR sz (n+1)).2 d ts=.bad 71 (tkH sz ts).at_:=pRegex_deep sz n _ _ d ts hd
    rw [e]
    exact regex_deep m R sz ts d w h hd
   obtain ⟨u,hu,hT⟩:=pRegex_eq sz n ((pFR sz n).1 (d+1)) ((pFR sz n).2 (d+1)) d ts hd h.ok
   have e:(pFR sz (n+1)).2 d ts=_:=hu
   rw [e]
   by_cases h2:(tkH sz ts).x=[97,110,121]
   ·obtain ⟨t,ht⟩:=hT (by rw [h2];decide)
    rw [if_pos h2]
    exact regex_one m R sz ts d w h hd h2 t u ht
   rw [if_neg h2]
   by_cases h4:(tkH sz ts).x=[40]
   ·have hx:(tkH sz ts).x≠[]:=by rw [h4];decide
    obtain ⟨t,ht⟩:=hT hx
    rw [if_pos h4]
    have hk0:=deepK d ts w h hx t u ht
    have hd2:d≤24:=by
     by_cases h24:24<d
     ·exact absurd ⟨h24,hk0⟩ hd
     ·omega
    have hlu:u.length+1≤n:=by rw [ht] at hn;simp at hn;omega
    exact regex_open m R sz ts d w h _ hd h0 (by omega) h2 h4 t u ht (fun W hW=>headR_any m R sz u.length u (d+1) W hW n _ _ (Nat.le_refl _) (fun kk rr W hl hW=>HR (d+1) (by omega) (by omega) kk rr W (by omega) hW) (fun kk more rr W hl hW=>HF (d+1) (by omega) (by omega) kk more rr W (by omega) hW))
   rw [if_neg h4]
   exact regex_none m R sz ts d w h hd h2 h4
def WhO (sz:Nat) (w:World) (L:List (Tok Val)) (e:Ending) (w':World):Prop:=Below w.heap.size w w'∧((∃ er a,pAll sz L=.bad er a∧e=faultE er a)∨∃ f v,pAll sz L=.ok f []∧e=.returned v∧FmV w f v w')
theorem whole_syn (sz:Nat) (L:List (Tok Val)) (b off c:Nat) (w:World) (hL:L.length+1≤c∧b<w.heap.size∧(L.length≤16384∧∀ t∈L,TkOk t)∧(∀ i (h:i<L.length),TkC w b (off+i*7) L[i])∧TkC w b (off+L.length*7) (endT sz)):
  Calls Tryz.prog 18 #[.slice (some ⟨b,off,none⟩) (L.length+1) c] w (WhO sz w L):=by
 obtain ⟨h2,hb,h5,h6,h7⟩:=hL
 have HO:Hid (∀ er a,(pFR sz (L.length+1)).1 1 L=.bad er a→pAll sz L=.bad er a):=fun er a e=>by unfold pAll;rw [e];rfl
 have HO2:Hid (∀ f r,(pFR sz (L.length+1)).1 1 L=.ok f r→pAll sz L=(match r with | []=>.ok f [] | t::_=>.bad 70 t.at_)):=fun f r e=>by unfold pAll;rw [e];rfl
 go_enter Tryz.func18,Tryz.ntmps18
 go_upto_region 2 with fail
 refine wp_world ?_
 intro W2 hW2
 have X2:Hid (W2.heap[w.heap.size]? =some (.cells #[.int .i64 0,.string ⟨#[]⟩,.int .i64 0,.slice none 0 0,.slice none 0 0,.int .i64 0,.int .i64 0,.bool false,.slice none 0 0,.slice none 0 0] 29 (0,0))):=by rw [hW2];exact (Below.heap_alloc _ _ _ (by simp)).trans (new_box w _)
 have R2:Hid (W2.heap[w.heap.size+1]? =some (.cells #[.slice (some ⟨b,off,none⟩) (L.length+1) c] 74 (0,0))):=by
  rw [hW2]
  have q:=new_box (w.alloc (.cells #[.int .i64 0,.string ⟨#[]⟩,.int .i64 0,.slice none 0 0,.slice none 0 0,.int .i64 0,.int .i64 0,.bool false,.slice none 0 0,.slice none 0 0] 29)) (.cells #[.slice (some ⟨b,off,none⟩) (L.length+1) c] 74)
  simp only [World.size_alloc] at q
  exact q
 have B2:Hid (Below w.heap.size w W2):=by rw [hW2];exact ((Below.refl _ _).alloc (Nat.le_refl _) _).alloc (by simp) _
 have z2:W2.heap.size=w.heap.size+2:=by rw [hW2];simp
 clear hW2
 have A2:Hid (RdAt (w.heap.size+2) W2 (w.heap.size+1) sz L):=⟨b,off,c,R2.out,h2,by omega,⟨by omega,by omega,by omega⟩,h5,fun i hi=>(h6 i hi).fr (P:=fun _=>False) (Fr.of_below B2.out) hb (fun q=>q),h7.fr (P:=fun _=>False) (Fr.of_below B2.out) hb (fun q=>q)⟩
 have CF:Hid (Calls Tryz.prog 31 #[.pointer (some ⟨w.heap.size+1,0,none⟩),.int .i64 1] W2 (RdO (w.heap.size+2) (w.heap.size+1) sz W2 (FmV W2) ((pFR sz (L.length+1)).1 1 L))):=(FR_any (w.heap.size+2) (w.heap.size+1) sz (L.length+1)).1 1 L W2 (by omega) (by omega) (by omega) A2.out
 have Z2:Hid (W2.heap.size=w.heap.size+2):=z2
 clear h2 h5 h6 h7 R2 A2 z2
 cases hP:(pFR sz (L.length+1)).1 1 L with
 | bad er a=>
  rw [hP] at CF
  go_wp2_with fail
  refine CF.out.mono ?_
  rintro e w3 ⟨rfl,hF3⟩
  exact ⟨rfl,B2.out.trans (hF3.below B2.out.size (fun k e=>by omega)),Or.inl ⟨er,a,HO.out er a hP,rfl⟩⟩
 | ok ff r=>
  rw [hP] at CF
  have hA:=HO2.out ff r hP
  clear HO HO2 hP
  go_wp2_with fail
  refine CF.out.mono ?_
  rintro e w3 ⟨v3,rfl,⟨q3,rfl,hQ3⟩,hA3,hF3⟩
  have HQ:Hid (QOwn (fun q=>W2.heap.size≤q) w3 (ff,q3)):=hQ3
  obtain ⟨uv,ut,us,ur⟩:=q3
  obtain ⟨k1,k2,k3,k4⟩:=hQ3.at
  dsimp only at k1 k2 k3 k4
  obtain ⟨-,qv,dv,rfl, -⟩:=k1
  obtain ⟨qt,dt,rfl, -⟩:=k2.form
  obtain ⟨qs,ds,rfl, -⟩:=k3.form
  obtain ⟨qr,dr,rfl, -⟩:=k4.form
  clear k2 k3 k4 hQ3
  have zz:=Z2.out
  have X3:Hid (w3.heap[w.heap.size]? =_):=hF3.heap X2.out (fun e=>by omega)
  have B3:Hid (Below w.heap.size w w3):=B2.out.trans (hF3.below B2.out.size (fun k e=>by omega))
  have A3:Hid (RdAt (w.heap.size+2) w3 (w.heap.size+1) sz r):=hA3
  have z3:W2.heap.size≤w3.heap.size:=hF3.size
  clear hF3 hA3 CF X2 B2
  obtain ⟨fk,efk⟩:∃ x,Hid (ff.k=x):=⟨_,rfl⟩
  obtain ⟨fnm,efn⟩:∃ x,Hid (ff.nm=x):=⟨_,rfl⟩
  obtain ⟨fop,efo⟩:∃ x,Hid (ff.op=x):=⟨_,rfl⟩
  obtain ⟨flo,efl⟩:∃ x,Hid (ff.lo=x):=⟨_,rfl⟩
  obtain ⟨fhi,efh⟩:∃ x,Hid (ff.hi=x):=⟨_,rfl⟩
  obtain ⟨fop2,efp⟩:∃ x,Hid (ff.opn=x):=⟨_,rfl⟩
  obtain ⟨nv,env⟩:∃ x,Hid (ff.vars.length=x):=⟨_,rfl⟩
  obtain ⟨nt,ent⟩:∃ x,Hid (ff.terms.length=x):=⟨_,rfl⟩
  obtain ⟨ns,ens⟩:∃ x,Hid (ff.subs.length=x):=⟨_,rfl⟩
  obtain ⟨nr,enr⟩:∃ x,Hid (ff.rgx.length=x):=⟨_,rfl⟩
  rw [efk.out,efn.out,efo.out,efl.out,efh.out,efp.out,env.out,ent.out,ens.out,enr.out]
  rw [env.out,ent.out,ens.out,enr.out] at HQ
  go_upto_region 3 with fail
  refine wp_world ?_
  intro W4 hW4
  have X4:Hid (W4.heap[w.heap.size]? =some (.cells #[.int .i64 0,.string ⟨#[]⟩,.int .i64 0,.slice none 0 0,.slice none 0 0,.int .i64 0,.int .i64 0,.bool false,.slice none 0 0,.slice none 0 0] 29 (0,0))):=by rw [hW4];exact (Below.heap_alloc _ _ _ (lt_heap X3.out)).trans X3.out
  have Y4:Hid (W4.heap[w3.heap.size]? =some (.cells #[.int .i64 fk,.string fnm,.int .i64 fop,.slice qv nv dv,.slice qt nt dt,.int .i64 flo,.int .i64 fhi,.bool fop2,.slice qs ns ds,.slice qr nr dr] 29 (0,0))):=by rw [hW4];exact new_box w3 _
  have B4:Hid (Below w.heap.size w W4):=by rw [hW4];exact B3.out.alloc B3.out.size _
  have A4:Hid (RdAt (w.heap.size+2) W4 (w.heap.size+1) sz r):=by rw [hW4];exact A3.out.below ((Below.refl w3.heap.size w3).alloc (Nat.le_refl _) _)
  have Q4:Hid (QOwn (fun q=>W2.heap.size≤q∧q<w3.heap.size) W4 (ff,(⟨.slice qv nv dv,.slice qt nt dt,.slice qs ns ds,.slice qr nr dr⟩:FQ))):=by rw [hW4];exact (HQ.out.mono (P':=fun q=>W2.heap.size≤q∧q<w3.heap.size) (fun q h1 h2=>⟨h1,h2⟩)).keep (fun q hq hlt=>Below.heap_alloc _ _ q hq.2)
  have z4:w3.heap.size<W4.heap.size:=by rw [hW4];simp
  clear hW4 X3 B3 A3 HQ
  generalize w3.heap.size=n3 at*
  have hok:=A4.out.ok
  have CN:Hid (Calls Tryz.prog 32 #[.pointer (some ⟨w.heap.size+1,0,none⟩)] W4 (NxO (w.heap.size+2) (w.heap.size+1) sz r W4 (.agg #[.int .i64 (tkH sz r).k,.int .i64 (tkH sz r).at_,.string (txB (tkH sz r)),.int .i64 (tkH sz r).v.k,.int .i64 (tkH sz r).v.n,.int .i64 (tkH sz r).v.d,.string (tkH sz r).v.s]))):=next_at _ _ sz r W4 A4.out
  have hk0:(tkH sz r).k=0∨(tkH sz r).k≠0:=by omega
  have HB:Hid ((tkH sz r).k=0→pAll sz L=.ok ff []):=fun e=>by
   rw [hA]
   cases r with
   | nil=>rfl
   | cons t l=>exact absurd e (hok t (by simp)).2.1
  have HB2:Hid ((tkH sz r).k≠0→pAll sz L=.bad 70 (tkH sz r).at_):=fun e=>by
   rw [hA]
   cases r with
   | nil=>exact absurd rfl e
   | cons t l=>rfl
  clear hA hok
  generalize (tkH sz r).k=tk at*
  generalize (tkH sz r).at_=ta at*
  generalize txB (tkH sz r)=tx at*
  generalize (tkH sz r).v.k=vk at*
  generalize (tkH sz r).v.n=vn at*
  generalize (tkH sz r).v.d=vd at*
  generalize (tkH sz r).v.s=vs at*
  rcases hk0 with hk0 | hk0
  ·subst hk0
   go_wp2_with fail
   refine CN.out.mono ?_
   rintro e w5 ⟨rfl,hF5, -⟩
   have X5:Hid (w5.heap[w.heap.size]? =_):=hF5.heap X4.out (fun e=>by omega)
   have Y5:Hid (w5.heap[n3]? =_):=hF5.heap Y4.out (fun e=>by omega)
   have Q5:Hid (QOwn (fun q=>W2.heap.size≤q∧q<n3) w5 (ff,(⟨.slice qv nv dv,.slice qt nt dt,.slice qs ns ds,.slice qr nr dr⟩:FQ))):=Q4.out.keep (fun q hq hlt=>hF5.block q hlt (fun e=>by omega))
   have B5:Hid (Below w.heap.size w w5):=B4.out.trans (hF5.below B4.out.size (fun k e=>by omega))
   have z5:n3<w5.heap.size:=lt_heap Y5.out
   clear hF5 CN X4 Y4 Q4 B4 A4
   go_upto_region 6 with fail
   refine wp_world ?_
   intro W6 hW6
   have K6:Hid (Below w5.heap.size w5 W6):=by rw [hW6];exact (Below.refl _ _).alloc (Nat.le_refl _) _
   clear hW6
   have X6:Hid (W6.heap[w.heap.size]? =_):=(K6.out.block _ (lt_heap X5.out)).trans X5.out
   have Y6:Hid (W6.heap[n3]? =_):=(K6.out.block _ z5).trans Y5.out
   have Q6:Hid (QOwn (fun q=>W2.heap.size≤q∧q<n3) W6 (ff,(⟨.slice qv nv dv,.slice qt nt dt,.slice qs ns ds,.slice qr nr dr⟩:FQ))):=Q5.out.keep (fun q hq hlt=>K6.out.block q hlt)
   have B6:Hid (Below w.heap.size w W6):=B5.out.trans (K6.out.mono B5.out.size)
   have F6:Hid (Fr (fun k=>w.heap.size≤k) w W6):=Fr.of_below B6.out
   clear K6 X5 Y5 Q5 B5
   obtain ⟨y0,y1,y2,y3,y4,y5,y6,y7,y8,y9⟩:=bx10 Y6.out
   obtain ⟨r0,r1,r2,r3,r4,r5,r6,r7,r8,r9⟩:=bx10 X6.out
   obtain ⟨q0,q1,q2,q3,q4,q5,q6,q7,q8,q9⟩:=bz10 X6.out
   go_wp2
   generalize hW9:World.setCell _ _ _=W9
   have X9:W9.heap[w.heap.size]? =some (.cells #[.int .i64 fk,.string fnm,.int .i64 fop,.slice qv nv dv,.slice qt nt dt,.int .i64 flo,.int .i64 fhi,.bool fop2,.slice qs ns ds,.slice qr nr dr] 29 (0,0)):=by rw [← hW9];exact put10 X6.out
   have F9:Fr (fun k=>w.heap.size≤k) w W9:=by rw [← hW9];exact frp10 F6.out (Or.inr (Nat.le_refl _)) _ _ _ _ _ _ _ _ _ _
   have G9:Fr (fun k=>k=w.heap.size) W6 W9:=by rw [← hW9];exact frp10 (Fr.refl (fun k=>k=w.heap.size) W6) (Or.inl rfl) _ _ _ _ _ _ _ _ _ _
   clear hW9
   obtain ⟨x0,x1,x2,x3,x4,x5,x6,x7,x8,x9⟩:=bx10 X9
   refine bodyPost_ret (by simp [results,Tryz.results18,go_sem,x0,x1,x2,x3,x4,x5,x6,x7,x8,x9];try rfl) rfl ?_
   have Q9:QOwn (fun q=>w.heap.size≤q) W9 (ff,(⟨.slice qv nv dv,.slice qt nt dt,.slice qs ns ds,.slice qr nr dr⟩:FQ)):=(Q6.out.keep (w':=W9) (fun q hq hlt=>G9.block q hlt (fun e=>by omega))).mono (fun q hq _=>by omega)
   refine ⟨F9.below (Nat.le_refl _) (fun k e=>e),Or.inr ⟨ff,_,HB.out (by trivial),rfl,⟨(⟨.slice qv nv dv,.slice qt nt dt,.slice qs ns ds,.slice qr nr dr⟩:FQ), ?_,Q9⟩⟩⟩
   rw [efk.out,efn.out,efo.out,efl.out,efh.out,efp.out]
  ·have hk':¬ (tk:Int)=0:=by omega
   go_wp2_with fail
   refine CN.out.mono ?_
   rintro e w5 ⟨rfl,hF5, -⟩
   have B5:Hid (Below w.heap.size w w5):=B4.out.trans (hF5.below B4.out.size (fun k e=>by omega))
   clear hF5 CN
   go_wp2_with fail
   refine (misplaced_at _ _ _ _ _ _ _ _).mono ?_
   rintro e w6 ⟨rfl,hb6⟩
   have B6:Below w.heap.size w w6:=(B5.out.alloc B5.out.size _).trans (hb6.mono (by have:=B5.out.size;simp;omega))
   clear hb6
   go_wp2
   exact ⟨rfl,B6,Or.inl ⟨70,_,HB2.out hk0,rfl⟩⟩
def prsP (l:List UInt8):Option Fm×Int×Int:=
 if 16384<l.length then (none,2,0) else
 match (T sdB l 0).2 with
 | some p=>(none,50,(p:Int))
 | none=>match pAll l.length (T sdB l 0).1 with
  | .bad e a=>(none,e,a)
  | .ok f _=>if chkF f=0 then (some f,0,0) else (none,chkF f,0)
def PsQ (l:List UInt8) (w:World) (e:Ending) (w':World):Prop:=Below w.heap.size w w'∧((∃ er a,prsP l=(none,er,a)∧e=.returned (.tuple #[zFm,.int .i64 er,.int .i64 a]))∨∃ f v,prsP l=(some f,0,0)∧e=.returned (.tuple #[v,.int .i64 0,.int .i64 0])∧FmV w f v w')
theorem parse_syn (s:ByteArray) (w:World) (ht:Pow w) (he:Errs w) (h8:6≤w.heap.size):Calls Tryz.prog 9 #[.string s] w (PsQ s.data.toList w):=by
 have hl:s.data.toList.length=s.size:=by simp
 by_cases hs:16384<s.size
 ·refine (par_bad s 2 0 w (by decide) (fun W hW=>tokens_long s W hs)).mono ?_
  rintro e w' ⟨rfl,hb⟩
  exact ⟨hb,Or.inl ⟨2,0,by unfold prsP;rw [if_pos (by omega)],rfl⟩⟩
 have hs':s.size≤16384:=by omega
 have e0:prsP s.data.toList=(match (T sdB s.data.toList 0).2 with | some p=>(none,50,(p:Int)) | none=>match pAll s.data.toList.length (T sdB s.data.toList 0).1 with | .bad e a=>(none,e,a) | .ok f _=>if chkF f=0 then (some f,0,0) else (none,chkF f,0)):=by unfold prsP;rw [if_neg (by omega)]
 have TR:∀ W:World,Below w.heap.size w W→_:=fun W hW=>tokens_run s W hs' (ht.below hW) (he.below hW h8) (Nat.le_trans h8 hW.size)
 cases hT:(T sdB s.data.toList 0).2 with
 | some p=>
  rw [hT] at e0
  refine (par_bad s 50 p w (by decide) (fun W hW=>(TR W hW).mono ?_)).mono ?_
  ·rintro e w' ⟨hb,⟨q,hq,rfl⟩ | ⟨hq, -⟩⟩
   ·rw [hT] at hq
    injection hq with hq
    subst hq
    exact ⟨rfl,hb⟩
   ·rw [hT] at hq;cases hq
  ·rintro e w' ⟨rfl,hb⟩
   exact ⟨hb,Or.inl ⟨50,p,e0,rfl⟩⟩
 | none=>
  rw [hT] at e0
  dsimp only at e0
  obtain ⟨n1,n2⟩:=toks_ok (l:=s.data.toList) (by omega)
  have CT:Hid (∀ W:World,Below w.heap.size w W→Calls Tryz.prog 17 #[.string s] W fun e w'=>∃ v,e=.returned (.tuple #[v,.int .i64 0,.int .i64 0])∧OwnT7 (W.heap.size+1) v (T sdB s.data.toList 0).1 w'∧Below W.heap.size W w'):=fun W hW=>(TR W hW).mono (by
   rintro e w' ⟨hb,⟨q,hq,rfl⟩ | ⟨hq,v,rfl,hO⟩⟩
   ·rw [hT] at hq;cases hq
   ·exact ⟨v,rfl,hO,hb⟩)
  generalize (T sdB s.data.toList 0).1=L at*
  rw [hl] at e0
  have WH:∀ (W:World) (b c:Nat),TksAt W s.size L b c→Calls Tryz.prog 18 #[.slice (some ⟨b,0,none⟩) (L.length+1) c] W (WhO s.size W L):=fun W b c hT=>whole_syn s.size L b 0 c W ⟨hT.1,hT.2.1,⟨n1,n2⟩,hT.2.2.1,hT.2.2.2⟩
  cases hP:pAll s.size L with
  | bad er a=>
   rw [hP] at e0
   refine (par_fault s L w hs' n1 CT er a (fun W b c hT=>(WH W b c hT).mono ?_)).mono ?_
   ·rintro e w' ⟨hb,⟨er',a',h,rfl⟩ | ⟨f,v,h, -⟩⟩
    ·rw [hP] at h
     injection h with h1 h2
     subst h1 h2
     exact ⟨rfl,hb⟩
    ·rw [hP] at h;cases h
   ·rintro e w' ⟨rfl,hb⟩
    exact ⟨hb,Or.inl ⟨er,a,e0,rfl⟩⟩
  | ok f r=>
   rw [hP] at e0
   dsimp only at e0
   obtain ⟨fk,fnm,fop,fvs,fts,flo,fhi,fpn,fss,frs⟩:=f
   have WC:Hid (∀ (W:World) (b c:Nat),TksAt W s.size L b c→Calls Tryz.prog 18 #[.slice (some ⟨b,0,none⟩) (L.length+1) c] W fun e w'=>∃ v,e=.returned v∧FmV W (Fm.mk fk fnm fop fvs fts flo fhi fpn fss frs) v w'∧Below W.heap.size W w'):=fun W b c hT=>(WH W b c hT).mono (by
    rintro e w' ⟨hb,⟨er',a',h, -⟩ | ⟨f,v,h,rfl,hv⟩⟩
    ·rw [hP] at h;cases h
    ·rw [hP] at h
     injection h with h1 h2
     subst h1
     exact ⟨v,rfl,hv,hb⟩)
   have CK:Hid (∀ (q:FQ) (W:World),QAt W ((Fm.mk fk fnm fop fvs fts flo fhi fpn fss frs),q)→Calls Tryz.prog 19 #[.agg #[.int .i64 fk,.string fnm,.int .i64 fop,q.v,q.t,.int .i64 flo,.int .i64 fhi,.bool fpn,q.s,q.r]] W fun r w'=>r=.returned (.int .i64 (chkF (Fm.mk fk fnm fop fvs fts flo fhi fpn fss frs)))∧Below W.heap.size W w'):=fun q W hq=>check_fm (Fm.mk fk fnm fop fvs fts flo fhi fpn fss frs) q W hq
   by_cases hc:chkF (Fm.mk fk fnm fop fvs fts flo fhi fpn fss frs)=0
   ·rw [if_pos hc] at e0
    rw [hc] at CK
    refine (par_ok s L w hs' n1 CT fk fop flo fhi fnm fpn fvs fts fss frs WC CK).mono ?_
    rintro e w' ⟨v,rfl,hv,hb⟩
    exact ⟨hb,Or.inr ⟨_,v,e0,rfl,hv⟩⟩
   ·rw [if_neg hc] at e0
    refine (par_unfit s L w hs' n1 CT fk fop flo fhi fnm fpn fvs fts fss frs WC _ CK hc).mono ?_
    rintro e w' ⟨rfl,hb⟩
    exact ⟨hb,Or.inl ⟨_,0,e0,rfl⟩⟩
theorem psq_some {l:List UInt8} {w w':World} {e:Ending} {f:Fm} (h:PsQ l w e w') (hl:prsP l=(some f,0,0)):∃ v,e=.returned (.tuple #[v,.int .i64 0,.int .i64 0])∧FmV w f v w'∧Below w.heap.size w w':=by
 obtain ⟨hb,⟨er,a,h1, -⟩ | ⟨g,v,h1,h2,h3⟩⟩:=h
 ·rw [hl] at h1;cases h1
 ·rw [hl] at h1
  injection h1 with h1
  injection h1 with h1
  subst h1
  exact ⟨v,h2,h3,hb⟩
theorem psq_none {l:List UInt8} {w w':World} {e:Ending} {er a:Int} (h:PsQ l w e w') (hl:prsP l=(none,er,a)):e=.returned (.tuple #[zFm,.int .i64 er,.int .i64 a])∧Below w.heap.size w w':=by
 obtain ⟨hb,⟨er',a',h1,h2⟩ | ⟨g,v,h1, -⟩⟩:=h
 ·rw [hl] at h1
  injection h1 with _ h1
  injection h1 with h1 h3
  subst h1 h3
  exact ⟨h2,hb⟩
 ·rw [hl] at h1;cases h1
def lvT1:List UInt8:=[32,40,32,111,110,99,101,91,48,44,53,93,40,112,34,97,34,41,41,32]
def lvT2:List UInt8:=[40,97,110,100,32,116,114,117,101,41]
def lvS:List UInt8:=[40,111,110,99,101,32,91,48,44,53,93,32,40,112,32,34,97,34,41,41]
def lvG:Fm:=.mk 3 ⟨#[112]⟩ 0 [] [.mk 2 ⟨#[]⟩ ⟨3,0,0,⟨#[97]⟩⟩ []] 0 0 false [] []
def lvFm:Fm:=.mk 13 ⟨#[]⟩ 0 [] [] 0 5 false [lvG] []
theorem lv_1:prsP lvT1=(some lvFm,0,0):=by kernel_rfl
theorem lv_2:prsP lvT2=(none,70,9):=by kernel_rfl
theorem lv_3:prtP lvFm=lvS:=by kernel_rfl
theorem lv_4:chkF lvFm=0:=by kernel_rfl
theorem fm_slices {w:World} {f:Fm} {uv ut us ur:Value} (h:QAt w (f,(⟨uv,ut,us,ur⟩:FQ))):∃ qv dv qt dt qs ds qr dr,uv=.slice qv f.vars.length dv∧ut=.slice qt f.terms.length dt∧us=.slice qs f.subs.length ds∧ur=.slice qr f.rgx.length dr:=by
 obtain ⟨k1,k2,k3,k4⟩:=h
 dsimp only at k1 k2 k3 k4
 obtain ⟨-,qv,dv,e1, -⟩:=k1
 obtain ⟨qt,dt,e2, -⟩:=k2.form
 obtain ⟨qs,ds,e3, -⟩:=k3.form
 obtain ⟨qr,dr,e4, -⟩:=k4.form
 exact ⟨qv,dv,qt,dt,qs,ds,qr,dr,e1,e2,e3,e4⟩
theorem live_syn (w:World) (ht:Pow w) (he:Errs w) (h8:6≤w.heap.size):Calls Tryz.prog 11 #[] w fun e w'=>e=.returned (.bool true)∧Below w.heap.size w w':=by
 have C1:Hid (Calls Tryz.prog 9 #[.string ⟨#[32,40,32,111,110,99,101,91,48,44,53,93,40,112,34,97,34,41,41,32]⟩] w (PsQ lvT1 w)):=parse_syn ⟨#[32,40,32,111,110,99,101,91,48,44,53,93,40,112,34,97,34,41,41,32]⟩ w ht he h8
 have C3:Hid (∀ W:World,Below w.heap.size w W→Calls Tryz.prog 9 #[.string ⟨#[40,97,110,100,32,116,114,117,101,41]⟩] W (PsQ lvT2 W)):=fun W hW=>parse_syn ⟨#[40,97,110,100,32,116,114,117,101,41]⟩ W (ht.below hW) (he.below hW h8) (Nat.le_trans h8 hW.size)
 have C2:Hid (∀ (q:FQ) (W:World),Below w.heap.size w W→QAt W (lvFm,q)→Calls Tryz.prog 10 #[.agg #[.int .i64 13,.string ⟨#[]⟩,.int .i64 0,q.v,q.t,.int .i64 0,.int .i64 5,.bool false,q.s,q.r]] W fun e w'=>e=.returned (.tuple #[.string ⟨lvS.toArray⟩,.int .i64 0])∧Below W.heap.size W w'):=fun q W hW hq=>by
  have h:=print_syn lvFm q W hq (ht.below hW)
  rw [lv_3,lv_4] at h
  exact h
 go_enter Tryz.func11,Tryz.ntmps11
 go_wp2_with fail
 refine C1.out.mono ?_
 intro e w1 hP1
 obtain ⟨v1,rfl,⟨⟨uv,ut,us,ur⟩,rfl,hQ1⟩,hb1⟩:=psq_some hP1 lv_1
 obtain ⟨qv,dv,qt,dt,qs,ds,qr,dr,rfl,rfl,rfl,rfl⟩:=fm_slices hQ1.at
 have Q1:Hid (QOwn (fun q=>w.heap.size≤q) w1 (lvFm,(⟨.slice qv 0 dv,.slice qt 0 dt,.slice qs 1 ds,.slice qr 0 dr⟩:FQ))):=hQ1
 have B1:Below w.heap.size w w1:=hb1
 clear hQ1 hb1 hP1 C1
 simp only [show lvFm.k=13 from rfl,show lvFm.nm=⟨#[]⟩ from rfl,show lvFm.op=0 from rfl,show lvFm.lo=0 from rfl,show lvFm.hi=5 from rfl,show lvFm.opn=false from rfl,show lvFm.vars.length=0 from rfl,show lvFm.terms.length=0 from rfl,show lvFm.subs.length=1 from rfl,show lvFm.rgx.length=0 from rfl]
 go_upto_region 2 with fail
 refine wp_world ?_
 intro W2 hW2
 have X2:Hid (W2.heap[w1.heap.size]? =some (.cells #[.int .i64 13,.string ⟨#[]⟩,.int .i64 0,.slice qv 0 dv,.slice qt 0 dt,.int .i64 0,.int .i64 5,.bool false,.slice qs 1 ds,.slice qr 0 dr] 29 (0,0))):=by rw [hW2];exact new_box w1 _
 have b12:Below w1.heap.size w1 W2:=by rw [hW2];exact (Below.refl _ _).alloc (Nat.le_refl _) _
 have B2:Below w.heap.size w W2:=B1.trans (b12.mono B1.size)
 have Q2:Hid (QAt W2 (lvFm,(⟨.slice qv 0 dv,.slice qt 0 dt,.slice qs 1 ds,.slice qr 0 dr⟩:FQ))):=Q1.out.at.below b12
 clear hW2 Q1 b12 B1
 generalize w1.heap.size=g1 at*
 obtain ⟨x0,x1,x2,x3,x4,x5,x6,x7,x8,x9⟩:=bx10 X2.out
 go_wp2_with fail
 refine (C2.out ⟨.slice qv 0 dv,.slice qt 0 dt,.slice qs 1 ds,.slice qr 0 dr⟩ W2 B2 Q2.out).mono ?_
 rintro e w3 ⟨rfl,hb3⟩
 have X3:Hid (w3.heap[g1]? =_):=(hb3.block _ (lt_heap X2.out)).trans X2.out
 have B3:Below w.heap.size w w3:=B2.trans (hb3.mono B2.size)
 have Q3:Hid (QAt w3 (lvFm,(⟨.slice qv 0 dv,.slice qt 0 dt,.slice qs 1 ds,.slice qr 0 dr⟩:FQ))):=Q2.out.below hb3
 clear hb3 X2 B2 Q2 C2 x0 x1 x2 x3 x4 x5 x6 x7 x8 x9
 go_wp2_with fail
 refine (C3.out w3 B3).mono ?_
 intro e w4 hP4
 obtain ⟨rfl,hb4⟩:=psq_none hP4 lv_2
 have X4:Hid (w4.heap[g1]? =_):=(hb4.block _ (lt_heap X3.out)).trans X3.out
 have B4:Below w.heap.size w w4:=B3.trans (hb4.mono B3.size)
 have Q4:Hid (QAt w4 (lvFm,(⟨.slice qv 0 dv,.slice qt 0 dt,.slice qs 1 ds,.slice qr 0 dr⟩:FQ))):=Q3.out.below hb4
 clear hb4 X3 B3 Q3 C3 hP4
 unfold zFm
 go_upto_region 4 with fail
 refine wp_world ?_
 intro W5 hW5
 have b45:Below w4.heap.size w4 W5:=by rw [hW5];exact (Below.refl _ _).alloc (Nat.le_refl _) _
 have X5:Hid (W5.heap[g1]? =_):=(b45.block _ (lt_heap X4.out)).trans X4.out
 have B5:Below w.heap.size w W5:=B4.trans (b45.mono B4.size)
 have Q5:QAt W5 (lvFm,(⟨.slice qv 0 dv,.slice qt 0 dt,.slice qs 1 ds,.slice qr 0 dr⟩:FQ)):=Q4.out.below b45
 clear hW5 b45 X4 B4 Q4
 obtain ⟨x0,x1,x2,x3,x4,x5,x6,x7,x8,x9⟩:=bx10 X5.out
 obtain ⟨-, -,hS5, -⟩:=Q5
 dsimp only at hS5
 obtain ⟨ps,cs,es, -, -,hx⟩:=hS5.form
 injection es with es1 es2 es3
 clear es2
 subst es1 es3
 obtain ⟨bs,os,uv6,ut6,us6,ur6,hp6,hb6,hc6, -,hT6, -, -⟩:=hx 0 (by decide)
 subst hp6
 obtain ⟨-, -, -, -,t4, -, -, -, -, -⟩:=hc6
 obtain ⟨pt,ct,et, -, -,hy⟩:=hT6.form
 subst et
 obtain ⟨bt,ot,u7,hp7,hb7,hc7, -, -⟩:=hy 0 (by decide)
 subst hp7
 obtain ⟨-, -, -, -, -,r5, -⟩:=hc7
 have t4':W5.cell? ⟨bs,os+4,none⟩=some (.slice (some ⟨bt,ot,none⟩) 1 ct):=by rw [show os+4=os+0*10+4 by omega];exact t4
 have r5':W5.cell? ⟨bt,ot+5,none⟩=some (.string ⟨#[97]⟩):=by rw [show ot+5=ot+0*7+5 by omega];exact r5
 clear t4 r5 hx hy hT6 hS5 X5
 unfold lvS
 go_wp2
 go_ret
 exact ⟨rfl,B5⟩
end Go.Proofs.YticnfeolbfmgfaaGreatDoor
