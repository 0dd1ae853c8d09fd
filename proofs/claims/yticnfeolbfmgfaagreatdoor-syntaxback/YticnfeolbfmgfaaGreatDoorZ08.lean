/- What the claims of this seat share: base. -/
import Derived.Test.YticnfeolbfmgfaaGreatDoorZ07
import Derived.Deep.RegionLaw
import Derived.Deep.DeepCutAuto
import Derived.Defers
import Derived.Recover
import Derived.OwnWalk
import Derived.Laws.OwnMore
set_option maxRecDepth 100000
set_option maxHeartbeats 8000000
namespace Go.Proofs.YticnfeolbfmgfaaGreatDoor
open Go.RowKit LX Go.Shelf
set_option linter.unusedVariables false
theorem ftx_A (k op lo hh:Int) (nm:ByteArray) (oo:Bool) (bv ov:Nat) (pt ps pr:Option Addr) (nv nt ns nr cv ct cs cr:Nat) (hd:ByteArray) (qt qr qs:Int) (qm:Bool) (OW V0:ByteArray) (VL:ByteArray) (LT LR LF:List ByteArray) (RS:ByteArray) (w:World) (h1:¬ k=1) (h2:¬ k=2) (SC:Hid (∀ W:World,Calls Tryz.prog 35 #[.int .i64 k] W fun e w'=>e=.returned (.agg #[.string hd,.bool true,.bool true,.bool true,.bool false,.int .i64 qt,.int .i64 qr,.int .i64 qs,.bool qm])∧Below W.heap.size W w')) (OC:Hid (∀ W:World,Calls Tryz.prog 36 #[.int .i64 op] W fun e w'=>e=.returned (.string OW)∧w'=W)) (hbv:bv<w.heap.size) (hV0:w.cell? ⟨bv,ov,none⟩=some (.string V0)) (hn1:1≤nv) (hc1:nv≤cv) (VC:Hid (∀ (W:World) (q:Option Addr),Below w.heap.size w W→(1<nv→q=some ⟨bv,ov+1,none⟩)→Calls Tryz.prog 37 #[.slice q (nv - 1) (cv - 1)] W fun e w'=>e=.returned (.string VL)∧Below W.heap.size W w')) (ET:Hid (∀ W:World,Below w.heap.size w W→Calls Tryz.prog 39 #[.slice pt nt ct,.func (.func 40) #[] #[]] W fun e w'=>∃ v,e=.returned v∧OwnN W.heap.size v LT w'∧Below W.heap.size W w')) (ER:Hid (∀ W:World,Below w.heap.size w W→Calls Tryz.prog 41 #[.slice pr nr cr,.func (.func 42) #[] #[]] W fun e w'=>∃ v,e=.returned v∧OwnN W.heap.size v LR w'∧Below W.heap.size W w')) (EF:Hid (∀ W:World,Below w.heap.size w W→Calls Tryz.prog 43 #[.slice ps ns cs,.func (.func 20) #[] #[]] W fun e w'=>∃ v,e=.returned v∧OwnN W.heap.size v LF w'∧Below W.heap.size W w')) (hLT:LT.length≤1000) (hLR:LR.length≤1000) (hLF:LF.length≤1000) (BK:Hid (∀ (W:World) (V:Value),NmsAt W V ([hd,nm,OW,V0,VL]++LT++LR++LF)→Calls Tryz.prog 37 #[V] W fun e w'=>e=.returned (.string RS)∧Below W.heap.size W w')) (hhd:hd.toList≠[]):
  Calls Tryz.prog 20 #[.agg #[.int .i64 k,.string nm,.int .i64 op,.slice (some ⟨bv,ov,none⟩) nv cv,.slice pt nt ct,.int .i64 lo,.int .i64 hh,.bool oo,.slice ps ns cs,.slice pr nr cr]] w fun e w'=>e=.returned (.string RS)∧Below w.heap.size w w':=by
 obtain ⟨i0,hi,hz0,hz1,hz2⟩:=info_parts inStA
 have k1:(k==1)=false:=by simpa using h1
 have k2:(k==2)=false:=by simpa using h2
 have hd1:(!hd.toList.isEmpty)=true:=by
  cases h:hd.toList with
  | nil=>exact absurd h hhd
  | cons a l=>rfl
 clear hhd
 go_enter Tryz.func20,Tryz.ntmps20
 go_upto_region 7 with fail
 refine wp_world ?_
 intro W0 hW0
 have X0:Hid (W0.heap[w.heap.size]? =some (.cells #[.int .i64 k,.string nm,.int .i64 op,.slice (some ⟨bv,ov,none⟩) nv cv,.slice pt nt ct,.int .i64 lo,.int .i64 hh,.bool oo,.slice ps ns cs,.slice pr nr cr] 29 (0,0))):=by rw [hW0];exact new_box w _
 have B0:Below w.heap.size w W0:=by rw [hW0];exact (Below.refl _ _).alloc (Nat.le_refl _) _
 have z0:w.heap.size<W0.heap.size:=by rw [hW0];simp
 clear hW0
 obtain ⟨c0, -, -,c3, -, -, -, -, -, -⟩:=bx10 X0.out
 go_cut [4,5] (fun v4 v5 wx=>∃ SB,v4=.pointer (some ⟨SB,0,none⟩)∧v5=.slice (some ⟨bv,ov,none⟩) nv cv∧Hid (wx.heap[SB]? =some (.cells #[.string hd,.bool true,.bool true,.bool true,.bool false,.int .i64 qt,.int .i64 qr,.int .i64 qs,.bool qm] 82 (0,0)))∧Hid (wx.heap[w.heap.size]? =some (.cells #[.int .i64 k,.string nm,.int .i64 op,.slice (some ⟨bv,ov,none⟩) nv cv,.slice pt nt ct,.int .i64 lo,.int .i64 hh,.bool oo,.slice ps ns cs,.slice pr nr cr] 29 (0,0)))∧Hid (Below w.heap.size w wx))
 case first=>
  go_region_law (first
   | (go_simp;go_at_call 35;refine (SC.out _).mono ?_;rintro e w1 ⟨rfl,hb1⟩;have hx1:Below W0.drew.heap.size W0.drew w1:=hb1;have hs1:W0.heap.size≤w1.heap.size:=hx1.size;have d3:w1.cell? ⟨w.heap.size,3,none⟩=some (.slice (some ⟨bv,ov,none⟩) nv cv):=(hx1.cell (p:=⟨w.heap.size,3,none⟩) z0).trans c3;have zz1:w.heap.size<w1.heap.size:=Nat.lt_of_lt_of_le z0 hs1)
   | (go_simp;go_at_call 35;refine (SC.out _).mono ?_;rintro e w1 ⟨rfl,hb1⟩;have hx1:Below (W0.alloc (.cells #[.string ⟨#[]⟩,.bool false,.bool false,.bool false,.bool false,.int .i64 0,.int .i64 0,.int .i64 0,.bool false] 82)).drew.heap.size (W0.alloc (.cells #[.string ⟨#[]⟩,.bool false,.bool false,.bool false,.bool false,.int .i64 0,.int .i64 0,.int .i64 0,.bool false] 82)).drew w1:=hb1;have hs1:W0.heap.size+1≤w1.heap.size:=(by have q:=hx1.size;simp at q;exact q);have d3:w1.cell? ⟨w.heap.size,3,none⟩=some (.slice (some ⟨bv,ov,none⟩) nv cv):=((hx1.cell (p:=⟨w.heap.size,3,none⟩) (by simp;omega)).trans ((bcl (n:=W0.heap.size) ((Below.refl W0.heap.size W0).alloc (Nat.le_refl _) _) c3 z0)));have hS1:w1.heap[W0.heap.size]? =some (.cells #[.string ⟨#[]⟩,.bool false,.bool false,.bool false,.bool false,.int .i64 0,.int .i64 0,.int .i64 0,.bool false] 82 (0,0)):=(hx1.block W0.heap.size (by simp)).trans (new_box W0 _);obtain ⟨s0,s1,s2,s3,s4,s5,s6,s7,s8⟩:=bx9 hS1;obtain ⟨r0,r1,r2,r3,r4,r5,r6,r7,r8⟩:=bz9 hS1))
  all_goals (
   go_wp2_with fail
   go_meet
   first
   | (have _g:=zz1;exact ⟨w1.heap.size,rfl,rfl,new_box w1 _,(Below.heap_alloc _ _ _ zz1).trans ((hx1.block _ z0).trans X0.out),(B0.trans ((Below.drew (Below.refl W0.heap.size W0)).trans hx1 |>.mono (Nat.le_of_lt z0))).alloc (Nat.le_of_lt zz1) _⟩)
   | (have _g:=hS1;exact ⟨W0.heap.size,rfl,rfl,put9 hS1,(frp9 (P:=fun k=>k=W0.heap.size) (Fr.refl _ w1) (Or.inl rfl) _ _ _ _ _ _ _ _ _).heap ((hx1.block _ (by simp;omega)).trans ((Below.heap_alloc _ _ _ z0).trans X0.out)) (fun e=>by omega),(B0.trans ((((Below.refl W0.heap.size W0).alloc (Nat.le_refl _) _).drew.trans (hx1.mono (by simp))).mono (Nat.le_of_lt z0))).trans ((frp9 (P:=fun k=>k=W0.heap.size) (Fr.refl _ w1) (Or.inl rfl) _ _ _ _ _ _ _ _ _).below (by omega) (fun k e=>by omega))⟩))
 case rest=>
 obtain ⟨SB,rfl,rfl,S7,X7,BQ⟩:=hcut
 have B7:Below w.heap.size w wc:=BQ.out
 clear c0 c3 X0 B0 z0 SC BQ
 have O7:Hid (OwnN w.heap.size (.slice none 0 0) [] wc):=OwnN.nil _ _
 obtain ⟨x0,x1,x2,x3,x4,x5,x6,x7,x8,x9⟩:=bx10 X7.out
 obtain ⟨s0,s1,s2,s3,s4,s5,s6,s7,s8⟩:=bx9 S7.out
 have z7:=B7.size
 go_wp2_with (at_builtin;refine wpList_append_own _ rfl _ _ 22 rfl w.heap.size 9 i0 (.string ByteArray.empty) 1 16 Tryz.underlying22 hi hz0 hz1 hz2 rfl (by decide) _ _ _ rfl (World.ownsRow.alloc O7.out _) ⟨wc.heap.size,0,none⟩ 1 1 [.string hd] rfl rfl ?cc1 ?cc2 ?cc3 ?cc4 ?cc5 ?_)
 case cc1=>(intro j u hj;rw [Addr.add_lit];(rcases j with _ | j)<;>simp at hj<;>subst hj<;>simp (maxDischargeDepth:=12) [go_sem])
 case cc2=>(intro u hu;simp at hu;subst hu;rfl)
 case cc3=>unfold maxLen;simp;try omega
 case cc4=>simp;try omega
 case cc5=>first | omega | (simp;omega)
 intro v8 w8 h2 h3 _
 have X8:Hid (w8.heap[w.heap.size]? =_):=(h3.block _ (Nat.lt_succ_of_lt (lt_heap X7.out) |> fun q=>by simpa using q) (own_neX O7.out X7.out (by decide)).symm).trans ((Below.heap_alloc _ _ _ (lt_heap X7.out)).trans X7.out)
 have S8:Hid (w8.heap[SB]? =_):=(h3.block _ (Nat.lt_succ_of_lt (lt_heap S7.out) |> fun q=>by simpa using q) (own_neX O7.out S7.out (by decide)).symm).trans ((Below.heap_alloc _ _ _ (lt_heap S7.out)).trans S7.out)
 have B8:Below w.heap.size w w8:=Below.grown (B7.alloc z7 _) h3 (by simp;omega) (fun q hq=>(World.ownsRow.lt O7.out q hq).1)
 have O8:Hid (OwnN w.heap.size v8 [hd] w8):=h2
 obtain ⟨p8,c8,rfl⟩:∃ p c,v8=.slice p 1 c:=by obtain ⟨p,c,h, -⟩:=O8.out.cap;exact ⟨p,c,h⟩
 clear h2 h3 X7 S7 B7 O7 z7 x0 x1 x2 x3 x4 x5 x6 x7 x8 x9 s0 s1 s2 s3 s4 s5 s6 s7 s8
 obtain ⟨x0,x1,x2,x3,x4,x5,x6,x7,x8,x9⟩:=bx10 X8.out
 obtain ⟨s0,s1,s2,s3,s4,s5,s6,s7,s8⟩:=bx9 S8.out
 have z8:=B8.size
 go_wp2_with (at_builtin;refine wpList_append_own _ rfl _ _ 22 rfl w.heap.size 9 i0 (.string ByteArray.empty) 1 16 Tryz.underlying22 hi hz0 hz1 hz2 rfl (by decide) _ _ _ rfl (World.ownsRow.alloc O8.out _) ⟨w8.heap.size,0,none⟩ 1 1 [.string nm] rfl rfl ?cc1 ?cc2 ?cc3 ?cc4 ?cc5 ?_)
 case cc1=>(intro j u hj;rw [Addr.add_lit];(rcases j with _ | j)<;>simp at hj<;>subst hj<;>simp (maxDischargeDepth:=12) [go_sem])
 case cc2=>(intro u hu;simp at hu;subst hu;rfl)
 case cc3=>unfold maxLen;simp;try omega
 case cc4=>simp;try omega
 case cc5=>first | omega | (simp;omega)
 intro v9 w9 h2 h3 _
 have X9:Hid (w9.heap[w.heap.size]? =_):=(h3.block _ (Nat.lt_succ_of_lt (lt_heap X8.out) |> fun q=>by simpa using q) (own_neX O8.out X8.out (by decide)).symm).trans ((Below.heap_alloc _ _ _ (lt_heap X8.out)).trans X8.out)
 have S9:Hid (w9.heap[SB]? =_):=(h3.block _ (Nat.lt_succ_of_lt (lt_heap S8.out) |> fun q=>by simpa using q) (own_neX O8.out S8.out (by decide)).symm).trans ((Below.heap_alloc _ _ _ (lt_heap S8.out)).trans S8.out)
 have B9:Below w.heap.size w w9:=Below.grown (B8.alloc z8 _) h3 (by simp;omega) (fun q hq=>(World.ownsRow.lt O8.out q hq).1)
 have O9:Hid (OwnN w.heap.size v9 [hd,nm] w9):=h2
 obtain ⟨p9,c9,rfl⟩:∃ p c,v9=.slice p 2 c:=by obtain ⟨p,c,h, -⟩:=O9.out.cap;exact ⟨p,c,h⟩
 clear h2 h3 X8 S8 B8 O8 z8 x0 x1 x2 x3 x4 x5 x6 x7 x8 x9 s0 s1 s2 s3 s4 s5 s6 s7 s8
 obtain ⟨x0,x1,x2,x3,x4,x5,x6,x7,x8,x9⟩:=bx10 X9.out
 obtain ⟨s0,s1,s2,s3,s4,s5,s6,s7,s8⟩:=bx9 S9.out
 have a0:w9.cell? ⟨bv,ov,none⟩=some (.string V0):=(B9.cell (p:=⟨bv,ov,none⟩) hbv).trans hV0
 have z9:=B9.size
 have HA:(w9.drew.alloc (.cells #[.string OW,.string V0] 9)).ownsRow w.heap.size 9 1 (.slice p9 2 c9) 2 [.string hd,.string nm]:=World.ownsRow.alloc (show w9.drew.ownsRow w.heap.size 9 1 (.slice p9 2 c9) 2 [.string hd,.string nm] from O9.out) _
 have HS:SrcA (w9.drew.alloc (.cells #[.string OW,.string V0] 9)) 1 (.slice (some ⟨w9.heap.size,0,none⟩) 2 2) 2 [.string OW,.string V0]:=Or.inr ⟨⟨w9.heap.size,0,none⟩,2,rfl,rfl,fun j x hx=>by rw [Addr.add_lit];(rcases j with _ | _ | j)<;>simp at hx<;>subst hx<;>simp (maxDischargeDepth:=12) [go_sem]⟩
 have zd:w.heap.size≤(w9.drew.alloc (.cells #[.string OW,.string V0] 9)).heap.size:=by simp;omega
 have hn0:0<nv:=hn1
 go_upto_region 13 with fail
 go_cut [3] (fun v3 wx=>∃ p c,v3=.slice p 4 c∧Hid (OwnN w.heap.size (.slice p 4 c) [hd,nm,OW,V0] wx)∧Hid (wx.heap[w.heap.size]? =some (.cells #[.int .i64 k,.string nm,.int .i64 op,.slice (some ⟨bv,ov,none⟩) nv cv,.slice pt nt ct,.int .i64 lo,.int .i64 hh,.bool oo,.slice ps ns cs,.slice pr nr cr] 29 (0,0)))∧Hid (wx.heap[SB]? =some (.cells #[.string hd,.bool true,.bool true,.bool true,.bool false,.int .i64 qt,.int .i64 qr,.int .i64 qs,.bool qm] 82 (0,0)))∧Hid (Below w.heap.size w wx))
 case first=>
  go_region_law (first
   | (go_simp;go_at_call 36;refine (OC.out _).mono ?_;rintro e wq ⟨rfl,hwq⟩;obtain rfl:=hwq.symm)
   | (refine step_append_srcQ rfl (.tmp 34) (.tmp 41) 22 rfl w.heap.size 9 i0 (.string ByteArray.empty) 1 16 Tryz.underlying22 hi hz0 hz1 hz2 rfl (by decide) (.slice p9 2 c9) 2 [.string hd,.string nm] (by simp [Act.eval]) HA (.slice (some ⟨w9.heap.size,0,none⟩) 2 2) 2 [.string OW,.string V0] (by simp [Act.eval]) HS (by intro u hu;simp at hu;rcases hu with rfl | rfl<;>rfl) (by unfold maxLen;omega) (by omega) zd (fun v' w' h2 h3=> ?_);have h4:w'.ownsRow w.heap.size 9 1 v' 4 [.string hd,.string nm,.string OW,.string V0]:=h2;obtain ⟨p',c',rfl⟩:=row_form h4))
  all_goals (
   go_wp2_with fail
   go_meet
   exact ⟨p',c',rfl,h4,(h3.block _ (Nat.lt_succ_of_lt (lt_heap X9.out) |> fun q=>by simpa using q) (own_neX HA ((Below.heap_alloc _ _ _ (lt_heap X9.out)).trans (show w9.drew.heap[_]? =_ from X9.out)) (by decide)).symm).trans ((Below.heap_alloc _ _ _ (lt_heap X9.out)).trans X9.out),(h3.block _ (Nat.lt_succ_of_lt (lt_heap S9.out) |> fun q=>by simpa using q) (own_neX HA ((Below.heap_alloc _ _ _ (lt_heap S9.out)).trans (show w9.drew.heap[_]? =_ from S9.out)) (by decide)).symm).trans ((Below.heap_alloc _ _ _ (lt_heap S9.out)).trans S9.out),Below.grown (B9.drew.alloc z9 _) h3 zd (fun q hq=>(World.ownsRow.lt HA q hq).1)⟩)
 case rest=>
 obtain ⟨p10,c10,rfl,O10,X10,S10,BQ⟩:=hcut
 have B10:Below w.heap.size w wc:=BQ.out
 clear BQ HA HS zd a0 z9 X9 S9 B9 O9 x0 x1 x2 x3 x4 x5 x6 x7 x8 x9 s0 s1 s2 s3 s4 s5 s6 s7 s8
 obtain ⟨wd,ewd⟩:∃ wd,wd=wc:=⟨_,rfl⟩
 rw [← ewd] at O10 X10 S10 B10 ⊢
 clear ewd
 go_upto_region 14 with fail
 go_cut [5] (fun v5 wx=>wx=wd∧∃ q,v5=.slice q (nv - 1) (cv - 1)∧(1<nv→q=some ⟨bv,ov+1,none⟩))
 case first=>
  by_cases hcv:cv=1
  ·subst hcv
   obtain rfl:nv=1:=by omega
   go_wp2_with fail
   go_meet
   exact ⟨rfl,_,rfl,fun q=>by omega⟩
  ·go_wp2_with fail
   go_meet
   exact ⟨rfl,_,rfl,fun _=>rfl⟩
 case rest=>
 obtain ⟨hwd,qv,rfl,hqv⟩:=hcut
 subst hwd
 obtain ⟨x0,x1,x2,x3,x4,x5,x6,x7,x8,x9⟩:=bx10 X10.out
 obtain ⟨s0,s1,s2,s3,s4,s5,s6,s7,s8⟩:=bx9 S10.out
 go_wp2_with fail
 refine (VC.out _ qv B10 hqv).mono ?_
 rintro e w11 ⟨rfl,hb⟩
 have X11:Hid (w11.heap[w.heap.size]? =_):=(hb.block _ (lt_heap X10.out)).trans X10.out
 have S11:Hid (w11.heap[SB]? =_):=(hb.block _ (lt_heap S10.out)).trans S10.out
 have B11:Below w.heap.size w w11:=B10.trans (hb.mono B10.size)
 have O11:Hid (OwnN w.heap.size (.slice p10 4 c10) [hd,nm,OW,V0] w11):=O10.out.bel hb
 clear hb X10 S10 B10 O10 x0 x1 x2 x3 x4 x5 x6 x7 x8 x9 s0 s1 s2 s3 s4 s5 s6 s7 s8
 obtain ⟨x0,x1,x2,x3,x4,x5,x6,x7,x8,x9⟩:=bx10 X11.out
 obtain ⟨s0,s1,s2,s3,s4,s5,s6,s7,s8⟩:=bx9 S11.out
 have z11:=B11.size
 go_wp2_with (at_builtin;refine wpList_append_own _ rfl _ _ 22 rfl w.heap.size 9 i0 (.string ByteArray.empty) 1 16 Tryz.underlying22 hi hz0 hz1 hz2 rfl (by decide) _ _ _ rfl (World.ownsRow.alloc O11.out _) ⟨w11.heap.size,0,none⟩ 1 1 [.string VL] rfl rfl ?cc1 ?cc2 ?cc3 ?cc4 ?cc5 ?_)
 case cc1=>(intro j u hj;rw [Addr.add_lit];(rcases j with _ | j)<;>simp at hj<;>subst hj<;>simp (maxDischargeDepth:=12) [go_sem])
 case cc2=>(intro u hu;simp at hu;subst hu;rfl)
 case cc3=>unfold maxLen;simp;try omega
 case cc4=>simp;try omega
 case cc5=>first | omega | (simp;omega)
 intro v12 w12 h2 h3 _
 have X12:Hid (w12.heap[w.heap.size]? =_):=(h3.block _ (Nat.lt_succ_of_lt (lt_heap X11.out) |> fun q=>by simpa using q) (own_neX O11.out X11.out (by decide)).symm).trans ((Below.heap_alloc _ _ _ (lt_heap X11.out)).trans X11.out)
 have S12:Hid (w12.heap[SB]? =_):=(h3.block _ (Nat.lt_succ_of_lt (lt_heap S11.out) |> fun q=>by simpa using q) (own_neX O11.out S11.out (by decide)).symm).trans ((Below.heap_alloc _ _ _ (lt_heap S11.out)).trans S11.out)
 have B12:Below w.heap.size w w12:=Below.grown (B11.alloc z11 _) h3 (by simp;omega) (fun q hq=>(World.ownsRow.lt O11.out q hq).1)
 have O12:Hid (OwnN w.heap.size v12 [hd,nm,OW,V0,VL] w12):=h2
 obtain ⟨p12,c12,rfl⟩:∃ p c,v12=.slice p 5 c:=by obtain ⟨p,c,h, -⟩:=O12.out.cap;exact ⟨p,c,h⟩
 clear h2 h3 X11 S11 B11 O11 z11 x0 x1 x2 x3 x4 x5 x6 x7 x8 x9 s0 s1 s2 s3 s4 s5 s6 s7 s8
 obtain ⟨x0,x1,x2,x3,x4,x5,x6,x7,x8,x9⟩:=bx10 X12.out
 obtain ⟨s0,s1,s2,s3,s4,s5,s6,s7,s8⟩:=bx9 S12.out
 go_wp2_with fail
 refine (ET.out _ B12).mono ?_
 rintro e w13 ⟨v13,rfl,hO,hb⟩
 have X13:Hid (w13.heap[w.heap.size]? =_):=(hb.block _ (lt_heap X12.out)).trans X12.out
 have S13:Hid (w13.heap[SB]? =_):=(hb.block _ (lt_heap S12.out)).trans S12.out
 have B13:Below w.heap.size w w13:=B12.trans (hb.mono B12.size)
 have O13:Hid (OwnN w.heap.size (.slice p12 5 c12) ([hd,nm,OW,V0,VL]) w13):=O12.out.bel hb
 have P13:Hid (OwnN w12.heap.size v13 LT w13):=hO
 obtain ⟨q13,d13,rfl⟩:∃ p c,v13=.slice p LT.length c:=by obtain ⟨p,c,h, -⟩:=hO.cap;exact ⟨p,c,h⟩
 have z13:=B13.size
 clear hb hO X12 S12 B12 O12 x0 x1 x2 x3 x4 x5 x6 x7 x8 x9 s0 s1 s2 s3 s4 s5 s6 s7 s8
 go_wp2_with (at_builtin;refine wpList_append_srcA rfl _ _ 22 rfl w.heap.size 9 i0 (.string ByteArray.empty) 1 16 Tryz.underlying22 hi hz0 hz1 hz2 rfl (by decide) (.slice p12 5 c12) 5 (([hd,nm,OW,V0,VL]).map Value.string) rfl O13.out (.slice q13 LT.length d13) LT.length (LT.map Value.string) rfl (src_names P13.out) ?ce1 ?ce2 ?ce3 ?ce4 ?_)
 case ce1=>(intro u hu;obtain ⟨s, -,rfl⟩:=List.mem_map.1 hu;rfl)
 case ce2=>unfold maxLen;first | omega | (simp;omega)
 case ce3=>first | omega | (simp;omega)
 case ce4=>first | omega | (simp;omega)
 intro v14 w14 h2 h3 _
 have X14:Hid (w14.heap[w.heap.size]? =_):=(h3.block _ (lt_heap X13.out) (own_neX O13.out X13.out (by decide)).symm).trans X13.out
 have S14:Hid (w14.heap[SB]? =_):=(h3.block _ (lt_heap S13.out) (own_neX O13.out S13.out (by decide)).symm).trans S13.out
 have B14:Below w.heap.size w w14:=Below.grown B13 h3 (by omega) (fun q hq=>(World.ownsRow.lt O13.out q hq).1)
 have O14:Hid (OwnN w.heap.size v14 ([hd,nm,OW,V0,VL]++LT) w14):=row_cast h2 (by simp;try omega) (by simp)
 obtain ⟨n14,en14⟩:∃ n,Hid (([hd,nm,OW,V0,VL]++LT).length=n):=⟨_,rfl⟩
 obtain ⟨p14,c14,rfl⟩:∃ p c,v14=.slice p n14 c:=by obtain ⟨p,c,h, -⟩:=O14.out.cap;rw [en14.out] at h;exact ⟨p,c,h⟩
 clear h2 h3 X13 S13 B13 O13 P13 z13
 obtain ⟨x0,x1,x2,x3,x4,x5,x6,x7,x8,x9⟩:=bx10 X14.out
 obtain ⟨s0,s1,s2,s3,s4,s5,s6,s7,s8⟩:=bx9 S14.out
 go_wp2_with fail
 refine (ER.out _ B14).mono ?_
 rintro e w15 ⟨v15,rfl,hO,hb⟩
 have X15:Hid (w15.heap[w.heap.size]? =_):=(hb.block _ (lt_heap X14.out)).trans X14.out
 have S15:Hid (w15.heap[SB]? =_):=(hb.block _ (lt_heap S14.out)).trans S14.out
 have B15:Below w.heap.size w w15:=B14.trans (hb.mono B14.size)
 have O15:Hid (OwnN w.heap.size (.slice p14 n14 c14) ([hd,nm,OW,V0,VL]++LT) w15):=O14.out.bel hb
 have P15:Hid (OwnN w14.heap.size v15 LR w15):=hO
 obtain ⟨q15,d15,rfl⟩:∃ p c,v15=.slice p LR.length c:=by obtain ⟨p,c,h, -⟩:=hO.cap;exact ⟨p,c,h⟩
 have z15:=B15.size
 clear hb hO X14 S14 B14 O14 x0 x1 x2 x3 x4 x5 x6 x7 x8 x9 s0 s1 s2 s3 s4 s5 s6 s7 s8
 go_wp2_with (at_builtin;refine wpList_append_srcA rfl _ _ 22 rfl w.heap.size 9 i0 (.string ByteArray.empty) 1 16 Tryz.underlying22 hi hz0 hz1 hz2 rfl (by decide) (.slice p14 n14 c14) ([hd,nm,OW,V0,VL]++LT).length (([hd,nm,OW,V0,VL]++LT).map Value.string) rfl O15.out (.slice q15 LR.length d15) LR.length (LR.map Value.string) rfl (src_names P15.out) ?ce1 ?ce2 ?ce3 ?ce4 ?_)
 case ce1=>(intro u hu;obtain ⟨s, -,rfl⟩:=List.mem_map.1 hu;rfl)
 case ce2=>unfold maxLen;first | omega | (simp;omega)
 case ce3=>first | omega | (simp;omega)
 case ce4=>first | omega | (simp;omega)
 intro v16 w16 h2 h3 _
 have X16:Hid (w16.heap[w.heap.size]? =_):=(h3.block _ (lt_heap X15.out) (own_neX O15.out X15.out (by decide)).symm).trans X15.out
 have S16:Hid (w16.heap[SB]? =_):=(h3.block _ (lt_heap S15.out) (own_neX O15.out S15.out (by decide)).symm).trans S15.out
 have B16:Below w.heap.size w w16:=Below.grown B15 h3 (by omega) (fun q hq=>(World.ownsRow.lt O15.out q hq).1)
 have O16:Hid (OwnN w.heap.size v16 ([hd,nm,OW,V0,VL]++LT++LR) w16):=row_cast h2 (by simp;try omega) (by simp)
 obtain ⟨n16,en16⟩:∃ n,Hid (([hd,nm,OW,V0,VL]++LT++LR).length=n):=⟨_,rfl⟩
 obtain ⟨p16,c16,rfl⟩:∃ p c,v16=.slice p n16 c:=by obtain ⟨p,c,h, -⟩:=O16.out.cap;rw [en16.out] at h;exact ⟨p,c,h⟩
 clear h2 h3 X15 S15 B15 O15 P15 z15
 obtain ⟨x0,x1,x2,x3,x4,x5,x6,x7,x8,x9⟩:=bx10 X16.out
 obtain ⟨s0,s1,s2,s3,s4,s5,s6,s7,s8⟩:=bx9 S16.out
 go_wp2_with fail
 refine (EF.out _ B16).mono ?_
 rintro e w17 ⟨v17,rfl,hO,hb⟩
 have X17:Hid (w17.heap[w.heap.size]? =_):=(hb.block _ (lt_heap X16.out)).trans X16.out
 have S17:Hid (w17.heap[SB]? =_):=(hb.block _ (lt_heap S16.out)).trans S16.out
 have B17:Below w.heap.size w w17:=B16.trans (hb.mono B16.size)
 have O17:Hid (OwnN w.heap.size (.slice p16 n16 c16) ([hd,nm,OW,V0,VL]++LT++LR) w17):=O16.out.bel hb
 have P17:Hid (OwnN w16.heap.size v17 LF w17):=hO
 obtain ⟨q17,d17,rfl⟩:∃ p c,v17=.slice p LF.length c:=by obtain ⟨p,c,h, -⟩:=hO.cap;exact ⟨p,c,h⟩
 have z17:=B17.size
 clear hb hO X16 S16 B16 O16 x0 x1 x2 x3 x4 x5 x6 x7 x8 x9 s0 s1 s2 s3 s4 s5 s6 s7 s8
 go_wp2_with (at_builtin;refine wpList_append_srcA rfl _ _ 22 rfl w.heap.size 9 i0 (.string ByteArray.empty) 1 16 Tryz.underlying22 hi hz0 hz1 hz2 rfl (by decide) (.slice p16 n16 c16) ([hd,nm,OW,V0,VL]++LT++LR).length (([hd,nm,OW,V0,VL]++LT++LR).map Value.string) rfl O17.out (.slice q17 LF.length d17) LF.length (LF.map Value.string) rfl (src_names P17.out) ?ce1 ?ce2 ?ce3 ?ce4 ?_)
 case ce1=>(intro u hu;obtain ⟨s, -,rfl⟩:=List.mem_map.1 hu;rfl)
 case ce2=>unfold maxLen;first | omega | (simp;omega)
 case ce3=>first | omega | (simp;omega)
 case ce4=>first | omega | (simp;omega)
 intro v18 w18 h2 h3 _
 have X18:Hid (w18.heap[w.heap.size]? =_):=(h3.block _ (lt_heap X17.out) (own_neX O17.out X17.out (by decide)).symm).trans X17.out
 have S18:Hid (w18.heap[SB]? =_):=(h3.block _ (lt_heap S17.out) (own_neX O17.out S17.out (by decide)).symm).trans S17.out
 have B18:Below w.heap.size w w18:=Below.grown B17 h3 (by omega) (fun q hq=>(World.ownsRow.lt O17.out q hq).1)
 have O18:Hid (OwnN w.heap.size v18 ([hd,nm,OW,V0,VL]++LT++LR++LF) w18):=row_cast h2 (by simp;try omega) (by simp)
 obtain ⟨n18,en18⟩:∃ n,Hid (([hd,nm,OW,V0,VL]++LT++LR++LF).length=n):=⟨_,rfl⟩
 obtain ⟨p18,c18,rfl⟩:∃ p c,v18=.slice p n18 c:=by obtain ⟨p,c,h, -⟩:=O18.out.cap;rw [en18.out] at h;exact ⟨p,c,h⟩
 clear h2 h3 X17 S17 B17 O17 P17 z17
 have NV:NmsAt w18 (.slice p18 n18 c18) ([hd,nm,OW,V0,VL]++LT++LR++LF):=O18.out.nms (by simp;omega)
 go_wp2_with fail
 refine (BK.out _ _ NV).mono ?_
 rintro e wz ⟨rfl,hb⟩
 go_wp2
 go_ret
 exact ⟨rfl,B18.trans (hb.mono B18.size)⟩
theorem rtx_1 (p q:Option Addr) (n m c d:Nat) (w:World):
  Calls Tryz.prog 42 #[.agg #[.int .i64 1,.slice p n c,.slice q m d]] w fun e w'=>e=.returned (.string ⟨(hdR 1).toArray⟩)∧Below w.heap.size w w':=by
 have CH:Hid (∀ W:World,Calls Tryz.prog 84 #[.int .i64 1] W fun e w'=>e=.returned (.string ⟨(hdR 1).toArray⟩)∧w'=W):=fun W=>regexHead_any 1 W
 generalize (⟨(hdR 1).toArray⟩:ByteArray)=H at*
 go_enter Tryz.func42,Tryz.ntmps42
 go_wp2_with fail
 refine (CH.out _).mono ?_
 rintro e w1 ⟨rfl,hw1⟩
 obtain rfl:=hw1.symm
 go_wp2
 go_ret
 exact ⟨rfl,by go_grown⟩
theorem rtx_n (k:Int) (p q:Option Addr) (n m c d:Nat) (w:World) (h1:¬ k=1) (LT LR:List ByteArray) (H RS:ByteArray) (hH:Hid (H=⟨(hdR k).toArray⟩)) (hLT:LT.length≤1000) (hLR:LR.length≤1000)
  (EF:Hid (∀ W:World,Below w.heap.size w W→Calls Tryz.prog 43 #[.slice p n c,.func (.func 20) #[] #[]] W fun e w'=>∃ v,e=.returned v∧OwnN W.heap.size v LT w'∧Below W.heap.size W w'))
  (ER:Hid (∀ W:World,Below w.heap.size w W→Calls Tryz.prog 41 #[.slice q m d,.func (.func 42) #[] #[]] W fun e w'=>∃ v,e=.returned v∧OwnN W.heap.size v LR w'∧Below W.heap.size W w'))
  (BK:Hid (∀ (W:World) (V:Value),NmsAt W V ([H]++LT++LR)→Calls Tryz.prog 37 #[V] W fun e w'=>e=.returned (.string RS)∧Below W.heap.size W w')):
  Calls Tryz.prog 42 #[.agg #[.int .i64 k,.slice p n c,.slice q m d]] w fun e w'=>e=.returned (.string RS)∧Below w.heap.size w w':=by
 obtain ⟨i0,hi,hz0,hz1,hz2⟩:=info_parts inStA
 have k1:(k==1)=false:=by simpa using h1
 have CH:Hid (∀ W:World,Calls Tryz.prog 84 #[.int .i64 k] W fun e w'=>e=.returned (.string H)∧w'=W):=fun W=>by rw [hH.out];exact regexHead_any k W
 clear hH
 go_enter Tryz.func42,Tryz.ntmps42
 go_wp2_with fail
 refine (CH.out _).mono ?_
 rintro e w1 ⟨rfl,hw1⟩
 obtain rfl:=hw1.symm
 clear CH
 go_upto_region 4 with fail
 refine wp_world ?_
 intro W1 hW1
 have X1:Hid (W1.heap[w.heap.size]? =some (.cells #[.int .i64 k,.slice p n c,.slice q m d] 91 (0,0))):=by rw [hW1];exact new_box w _
 have B1:Below w.heap.size w W1:=by rw [hW1];exact (Below.refl _ _).alloc (Nat.le_refl _) _
 clear hW1
 obtain ⟨x0,x1,x2⟩:=bx3 X1.out
 have z1:=B1.size
 have lX1:=lt_heap X1.out
 have bA:Below w.heap.size w (W1.alloc (.cells #[.string H] 9)):=B1.alloc z1 _
 have OA:Hid (OwnN w.heap.size (.slice (some ⟨W1.heap.size,0,none⟩) 1 1) [H] (W1.alloc (.cells #[.string H] 9))):=own_lit W1 H w.heap.size z1
 have XA:Hid ((W1.alloc (.cells #[.string H] 9)).heap[w.heap.size]? =some (.cells #[.int .i64 k,.slice p n c,.slice q m d] 91 (0,0))):=(Below.heap_alloc _ _ _ lX1).trans X1.out
 go_wp2_with fail
 refine (EF.out _ bA).mono ?_
 rintro e w2 ⟨v2,rfl,hO2,hb2⟩
 obtain ⟨p2,c2,rfl⟩:∃ p c,v2=.slice p LT.length c:=by obtain ⟨p,c,h, -⟩:=hO2.cap;exact ⟨p,c,h⟩
 have X2:Hid (w2.heap[w.heap.size]? =_):=(hb2.block _ (lt_heap XA.out)).trans XA.out
 have B2:Below w.heap.size w w2:=bA.trans (hb2.mono bA.size)
 have O2:Hid (OwnN w.heap.size (.slice (some ⟨W1.heap.size,0,none⟩) 1 1) [H] w2):=OA.out.bel hb2
 have P2:Hid (OwnN (W1.alloc (.cells #[.string H] 9)).heap.size (.slice p2 LT.length c2) LT w2):=hO2
 have z2:=B2.size
 clear hb2 hO2 OA XA X1 B1 bA x0 x1 x2 EF
 generalize W1.heap.size=g1 at O2 ⊢
 go_wp2_with (at_builtin;refine wpList_append_srcA rfl _ _ 22 rfl w.heap.size 9 i0 (.string ByteArray.empty) 1 16 Tryz.underlying22 hi hz0 hz1 hz2 rfl (by decide) (.slice (some ⟨g1,0,none⟩) 1 1) 1 [.string H] rfl O2.out (.slice p2 LT.length c2) LT.length (LT.map Value.string) rfl (src_names P2.out) ?ce1 ?ce2 ?ce3 ?ce4 ?_)
 case ce1=>(intro u hu;obtain ⟨s, -,rfl⟩:=List.mem_map.1 hu;rfl)
 case ce2=>unfold maxLen;first | omega | (simp;omega)
 case ce3=>first | omega | (simp;omega)
 case ce4=>first | omega | (simp;omega)
 intro v3 w3 h2 h3 _
 have X3:Hid (w3.heap[w.heap.size]? =_):=(h3.block _ (lt_heap X2.out) (own_neX O2.out X2.out (by decide)).symm).trans X2.out
 have B3:Below w.heap.size w w3:=Below.grown B2 h3 (by omega) (fun q hq=>(World.ownsRow.lt O2.out q hq).1)
 have O3:Hid (OwnN w.heap.size v3 ([H]++LT) w3):=row_cast h2 (by simp;try omega) (by simp)
 obtain ⟨n3,en3⟩:∃ n,Hid (([H]++LT).length=n):=⟨_,rfl⟩
 obtain ⟨p3,c3,rfl⟩:∃ p c,v3=.slice p n3 c:=by obtain ⟨p,c,h, -⟩:=O3.out.cap;rw [en3.out] at h;exact ⟨p,c,h⟩
 clear h2 h3 X2 B2 O2 P2 z2
 obtain ⟨x0,x1,x2⟩:=bx3 X3.out
 go_wp2_with fail
 refine (ER.out _ B3).mono ?_
 rintro e w4 ⟨v4,rfl,hO4,hb4⟩
 obtain ⟨p4,c4,rfl⟩:∃ p c,v4=.slice p LR.length c:=by obtain ⟨p,c,h, -⟩:=hO4.cap;exact ⟨p,c,h⟩
 have B4:Below w.heap.size w w4:=B3.trans (hb4.mono B3.size)
 have O4:Hid (OwnN w.heap.size (.slice p3 n3 c3) ([H]++LT) w4):=O3.out.bel hb4
 have P4:Hid (OwnN w3.heap.size (.slice p4 LR.length c4) LR w4):=hO4
 have z4:=B4.size
 clear hb4 hO4 O3 X3 B3 x0 x1 x2 ER
 go_wp2_with (at_builtin;refine wpList_append_srcA rfl _ _ 22 rfl w.heap.size 9 i0 (.string ByteArray.empty) 1 16 Tryz.underlying22 hi hz0 hz1 hz2 rfl (by decide) (.slice p3 n3 c3) ([H]++LT).length (([H]++LT).map Value.string) rfl O4.out (.slice p4 LR.length c4) LR.length (LR.map Value.string) rfl (src_names P4.out) ?ce1 ?ce2 ?ce3 ?ce4 ?_)
 case ce1=>(intro u hu;obtain ⟨s, -,rfl⟩:=List.mem_map.1 hu;rfl)
 case ce2=>unfold maxLen;first | omega | (simp;omega)
 case ce3=>first | omega | (simp;omega)
 case ce4=>first | omega | (simp;omega)
 intro v5 w5 h2 h3 _
 have B5:Below w.heap.size w w5:=Below.grown B4 h3 (by omega) (fun q hq=>(World.ownsRow.lt O4.out q hq).1)
 have O5:OwnN w.heap.size v5 ([H]++LT++LR) w5:=row_cast h2 (by simp;try omega) (by simp)
 have N5:NmsAt w5 v5 ([H]++LT++LR):=O5.nms (by simp;omega)
 have BK5:Hid (Calls Tryz.prog 37 #[v5] w5 fun e w'=>e=.returned (.string RS)∧Below w5.heap.size w5 w'):=BK.out w5 v5 N5
 clear h2 h3 B4 O4 P4 z4 O5 N5 BK
 go_wp2_with fail
 refine BK5.out.mono ?_
 rintro e w6 ⟨rfl,hb6⟩
 go_wp2
 go_ret
 exact ⟨rfl,B5.trans (hb6.mono B5.size)⟩
theorem both_ft {w:World}:∀ n,(∀ (v:Value) (fs:List Fm),SizeOf.sizeOf fs≤n→FmsAt w v fs→ftFs fs)∧(∀ (v:Value) (rs:List Rx),SizeOf.sizeOf rs≤n→RxsAt w v rs→ftRs rs):=by
 have kF:∀ l:List Fm,(∀ i (h:i<l.length),ftF l[i])→ftFs l:=by
  intro l
  induction l with
  | nil=>intro _;rw [ftFs];trivial
  | cons t l ihl=>
   intro hh
   rw [ftFs_cons]
   exact ⟨hh 0 (by simp),ihl (fun i hi=>hh (i+1) (by simp;omega))⟩
 have kR:∀ l:List Rx,(∀ i (h:i<l.length),ftR l[i])→ftRs l:=by
  intro l
  induction l with
  | nil=>intro _;rw [ftRs];trivial
  | cons t l ihl=>
   intro hh
   rw [ftRs_cons]
   exact ⟨hh 0 (by simp),ihl (fun i hi=>hh (i+1) (by simp;omega))⟩
 intro n
 induction n with
 | zero=>
  refine ⟨fun v fs hn h=> ?_,fun v rs hn h=> ?_⟩
  ·cases fs<;>simp at hn
  ·cases rs<;>simp at hn
 | succ n ih=>
  refine ⟨fun v fs hn h=> ?_,fun v rs hn h=> ?_⟩
  ·cases h with
   | nil=>rw [ftFs];trivial
   | row uv ut us ur hl hc hB cells vars terms sub rgx=>
    refine kF _ (fun i h=> ?_)
    rw [ftF_eq]
    exact ⟨tms_ft (terms i h),ih.2 _ _ (by have:=mem_lt i h;have:=Fm.rgx_lt fs[i];omega) (rgx i h),ih.1 _ _ (by have:=mem_lt i h;have:=Fm.subs_lt fs[i];omega) (sub i h)⟩
  ·cases h with
   | nil=>rw [ftRs];trivial
   | row ut us hl hc hB cells test sub=>
    refine kR _ (fun i h=> ?_)
    rw [ftR_eq]
    exact ⟨ih.1 _ _ (by have:=mem_lt i h;have:=Rx.test_lt rs[i];omega) (test i h),ih.2 _ _ (by have:=mem_lt i h;have:=Rx.subs_lt rs[i];omega) (sub i h)⟩
theorem fms_ft {w:World} {v:Value} {fs:List Fm} (h:FmsAt w v fs):ftFs fs:=(both_ft _).1 v fs (Nat.le_refl _) h
theorem rxs_ft {w:World} {v:Value} {rs:List Rx} (h:RxsAt w v rs):ftRs rs:=(both_ft _).2 v rs (Nat.le_refl _) h
def tT (x:Tm):ByteArray:=⟨(txT x).toArray⟩
def tF (x:Fm):ByteArray:=⟨(txF x).toArray⟩
def tR (x:Rx):ByteArray:=⟨(txR x).toArray⟩
theorem bL_app (a b:List ByteArray):bL (a++b)=bL a++bL b:=by unfold bL;rw [List.map_append]
theorem bL_T (l:List Tm):bL (l.map tT)=txTs l:=by rw [txTs_map];unfold bL;rw [List.map_map];rfl
theorem bL_F (l:List Fm):bL (l.map tF)=txFs l:=by rw [txFs_map];unfold bL;rw [List.map_map];rfl
theorem bL_R (l:List Rx):bL (l.map tR)=txRs l:=by rw [txRs_map];unfold bL;rw [List.map_map];rfl
theorem tx_list (f:Fm) (HL:List ByteArray) (hH:bL HL=fmH f):bL (HL++f.terms.map tT++f.rgx.map tR++f.subs.map tF)=fmH f++txTs f.terms++txRs f.rgx++txFs f.subs:=by
 rw [bL_app,bL_app,bL_app,bL_T,bL_R,bL_F,hH]
theorem nodFs_mem:∀ {l:List Fm},∀ t∈l,nodF t≤nodFs l
 | [],t,h=>by cases h
 | x::l,t,h=>by
  rw [nodFs_cons]
  rcases List.mem_cons.1 h with rfl | h
  ·omega
  ·have:=nodFs_mem t h;omega
theorem nodRs_mem:∀ {l:List Rx},∀ t∈l,nodR t≤nodRs l
 | [],t,h=>by cases h
 | x::l,t,h=>by
  rw [nodRs_cons]
  rcases List.mem_cons.1 h with rfl | h
  ·omega
  ·have:=nodRs_mem t h;omega
def TxF (f:Fm) (w:World) (uv ut us ur:Value):Prop:=Calls Tryz.prog 20 #[.agg #[.int .i64 f.k,.string f.nm,.int .i64 f.op,uv,ut,.int .i64 f.lo,.int .i64 f.hi,.bool f.opn,us,ur]] w fun e w'=>e=.returned (.string ⟨(txF f).toArray⟩)∧Below w.heap.size w w'
def TxR (r:Rx) (w:World) (ut us:Value):Prop:=Calls Tryz.prog 42 #[.agg #[.int .i64 r.k,ut,us]] w fun e w'=>e=.returned (.string ⟨(txR r).toArray⟩)∧Below w.heap.size w w'
theorem ftx_1 (op lo hh:Int) (nm:ByteArray) (oo:Bool) (pv pt ps pr:Option Addr) (nv nt ns nr cv ct cs cr:Nat) (w:World):Calls Tryz.prog 20 #[.agg #[.int .i64 1,.string nm,.int .i64 op,.slice pv nv cv,.slice pt nt ct,.int .i64 lo,.int .i64 hh,.bool oo,.slice ps ns cs,.slice pr nr cr]] w fun e w'=>e=.returned (.string ⟨#[116,114,117,101]⟩)∧Below w.heap.size w w':=by
 go_enter Tryz.func20,Tryz.ntmps20
 go_wp2
 go_ret
 exact ⟨rfl,by go_grown⟩
theorem ftx_2 (op lo hh:Int) (nm:ByteArray) (oo:Bool) (pv pt ps pr:Option Addr) (nv nt ns nr cv ct cs cr:Nat) (w:World):Calls Tryz.prog 20 #[.agg #[.int .i64 2,.string nm,.int .i64 op,.slice pv nv cv,.slice pt nt ct,.int .i64 lo,.int .i64 hh,.bool oo,.slice ps ns cs,.slice pr nr cr]] w fun e w'=>e=.returned (.string ⟨#[102,97,108,115,101]⟩)∧Below w.heap.size w w':=by
 go_enter Tryz.func20,Tryz.ntmps20
 go_wp2
 go_ret
 exact ⟨rfl,by go_grown⟩
theorem hdF_ne {k:Int} (h1:4≤k) (h2:k≤22):(⟨(hdF k).toArray⟩:ByteArray).toList≠[]:=by
 rw [toList_data]
 rcases kinds22 (by omega) h2 with h | h | h | h | h | h | h | h | h | h | h | h | h | h | h | h | h | h | h | h<;>first | omega | (subst h;decide)
theorem shpF {k:Int} (h1:4≤k) (h2:k≤22):((shp k).named=decide (k=19∨k=20∨k=21))∧((shp k).reck=decide (k=19))∧((shp k).listed=decide (k=10∨k=19∨k=20∨k=21))∧((shp k).timed=decide (11≤k∧k≤18)):=by
 rcases kinds22 (by omega) h2 with h | h | h | h | h | h | h | h | h | h | h | h | h | h | h | h | h | h | h | h<;>first | omega | (subst h;decide)
theorem headD_get:∀ (l:List ByteArray) (h:0<l.length),l[0]=l.headD ⟨#[]⟩
 | [],h=>by simp at h
 | x::l,_=>rfl
theorem fmH_eq (f:Fm):fmH f=(if f.k=3 then [] else [hdF f.k])++((if (shp f.k).named then [f.nm.data.toList] else [])++((if (shp f.k).reck then [hdO f.op,(f.vars.headD ⟨#[]⟩).data.toList] else [])++((if (shp f.k).listed then [brkt ((if (shp f.k).reck then f.vars.drop 1 else f.vars).map fun v=>v.data.toList)] else [])++(if (shp f.k).timed then [ivT f.lo f.hi f.opn] else [])))):=by unfold fmH;simp only [List.append_assoc]
theorem vars_jn {l:List ByteArray} (h:∀ s∈l,nameB s=true) (h8:l.length≤8):(jn (bL l)).length≤1099511627776:=by
 have h1:=wds_len h
 have h2:=jn_le (bL l)
 have e:bL l=l.map fun v=>v.data.toList:=rfl
 rw [e] at h2 ⊢
 omega
theorem form_tx (f:Fm) (q:FQ) (w:World) (hq:QAt w (f,q)) (hw:wfF f) (hn:nodF f≤256) (ht:Pow w)
  (IF:∀ (g:Fm) (uv ut us ur:Value) (W:World),g∈f.subs→Below w.heap.size w W→NmsAt W uv g.vars→TmsAt W ut g.terms→FmsAt W us g.subs→RxsAt W ur g.rgx→TxF g W uv ut us ur)
  (IR:∀ (r:Rx) (ut us:Value) (W:World),r∈f.rgx→Below w.heap.size w W→FmsAt W ut r.test→RxsAt W us r.subs→TxR r W ut us):TxF f w q.v q.t q.s q.r:=by
 obtain ⟨uv,ut,us,ur⟩:=q
 obtain ⟨hV,hT,hS,hR⟩:=hq
 dsimp only at hV hT hS hR ⊢
 have hw':=hw
 rw [wfF_eq] at hw
 obtain ⟨hE,hwt,hwr,hws⟩:=hw
 have hft:=tms_ft hT
 have hfs:=fms_ft hS
 have hfr:=rxs_ft hR
 obtain ⟨⟨k1,k22⟩,hvl, -⟩:=fm_forms hE
 have hv8:=fm_vars hE
 obtain ⟨p1,p2,p3,p4⟩:=fm_parts hE
 have hall:=namesB_all p1
 have hlen:=((both_len _).1 [f] (Nat.le_refl _) (by rw [wfFs_cons,wfFs_nil];exact ⟨hw',trivial⟩) (by rw [ftFs_cons,ftF_eq,ftFs];exact ⟨⟨hft,hfr,hfs⟩,trivial⟩)).2 f (by simp)
 have hnn:=hn
 rw [nodF_eq] at hnn
 have lT:=nodTs_len f.terms
 have lR:=nodRs_len f.rgx
 have lS:=nodFs_len f.subs
 have ET:∀ W:World,Below w.heap.size w W→Calls Tryz.prog 39 #[ut,.func (.func 40) #[] #[]] W fun e w'=>∃ v,e=.returned v∧OwnN W.heap.size v (f.terms.map tT) w'∧Below W.heap.size W w':=fun W hW=>eachT_any f.terms ut W (hT.bel hW) (by omega) (fun i hi u' W' hW' hu'=>by
  have hmem:f.terms[i]∈f.terms:=List.getElem_mem hi
  have hfi:=ftTs_mem hft _ hmem
  rw [ftT_eq] at hfi
  exact txT_any _ f.terms[i] u' W' (Nat.le_refl _) (hu'.bel hW') hfi.1 (wfTs_mem hwt _ hmem) (by have:=nodTs_mem _ hmem;omega) ((ht.below hW).below hW'))
 have ER:∀ W:World,Below w.heap.size w W→Calls Tryz.prog 41 #[ur,.func (.func 42) #[] #[]] W fun e w'=>∃ v,e=.returned v∧OwnN W.heap.size v (f.rgx.map tR) w'∧Below W.heap.size W w':=fun W hW=>eachR_any f.rgx ur W (hR.bel hW) (by omega) (fun i hi ut' us' W' hW' h1 h2=>IR f.rgx[i] ut' us' W' (List.getElem_mem hi) (hW.trans (hW'.mono hW.size)) (h1.bel hW') (h2.bel hW'))
 have EF:∀ W:World,Below w.heap.size w W→Calls Tryz.prog 43 #[us,.func (.func 20) #[] #[]] W fun e w'=>∃ v,e=.returned v∧OwnN W.heap.size v (f.subs.map tF) w'∧Below W.heap.size W w':=fun W hW=>eachF_any f.subs us W (hS.bel hW) (by omega) (fun i hi uv' ut' us' ur' W' hW' n1 n2 n3 n4=>IF f.subs[i] uv' ut' us' ur' W' (List.getElem_mem hi) (hW.trans (hW'.mono hW.size)) (n1.below hW') (n2.bel hW') (n3.bel hW') (n4.bel hW'))
 have BKg:∀ HL:List ByteArray,bL HL=fmH f→¬ f.k=1→¬ f.k=2→∀ (W:World) (V:Value),NmsAt W V (HL++f.terms.map tT++f.rgx.map tR++f.subs.map tF)→Calls Tryz.prog 37 #[V] W fun e w'=>e=.returned (.string ⟨(txF f).toArray⟩)∧Below W.heap.size W w':=fun HL hH n1 n2 W V hV=>by
  have e:=tx_list f HL hH
  have e2:txF f=brkt (bL (HL++f.terms.map tT++f.rgx.map tR++f.subs.map tF)):=by rw [e,txF_eq,if_neg n1,if_neg n2]
  rw [e2] at hlen ⊢
  refine brk_any _ V W hV ?_
  unfold brkt at hlen
  simp only [List.length_cons,List.length_append,List.length_nil] at hlen
  omega
 have VCg:∀ (l:List ByteArray) (V:Value),(∀ s∈l,nameB s=true)→l.length≤8→NmsAt w V l→∀ W:World,Below w.heap.size w W→Calls Tryz.prog 37 #[V] W fun e w'=>e=.returned (.string ⟨(brkt (bL l)).toArray⟩)∧Below W.heap.size W w':=fun l V ha h8 hN W hW=>brk_any l V W (hN.below hW) (vars_jn ha h8)
 obtain ⟨h63,pv,cv,rfl,hcv,hVc⟩:=hV
 obtain ⟨pt,ct,rfl, -⟩:=hT.form
 obtain ⟨ps,cs,rfl, -⟩:=hS.form
 obtain ⟨pr,cr,rfl, -⟩:=hR.form
 unfold TxF
 by_cases e1:f.k=1
 ·rw [txF_eq,if_pos e1,e1]
  exact ftx_1 _ _ _ _ _ _ _ _ _ _ _ _ _ _ _ _ _ w
 by_cases e2:f.k=2
 ·rw [txF_eq,if_neg e1,if_pos e2,e2]
  exact ftx_2 _ _ _ _ _ _ _ _ _ _ _ _ _ _ _ _ _ w
 have SH:∀ W:World,_:=fun W=>shape_any f.k W (by omega) k22
 by_cases e3:f.k=3
 ·rw [e3] at SH
  have hH:bL [f.nm]=fmH f:=by rw [fmH_eq,e3];rfl
  rw [e3]
  exact ftx_P 3 f.op f.lo f.hi f.nm f.opn pv pt ps pr _ _ _ _ cv ct cs cr ⟨#[]⟩ _ _ _ _ (f.terms.map tT) (f.rgx.map tR) (f.subs.map tF) _ w (by decide) (by decide) SH ET ER EF (by simp;omega) (by simp;omega) (by simp;omega) (BKg [f.nm] hH e1 e2) rfl
 obtain ⟨s1,s2,s3,s4⟩:=shpF (k:=f.k) (by omega) k22
 have hd0:=hdF_ne (k:=f.k) (by omega) k22
 rw [if_neg e3] at SH
 by_cases e10:f.k=10
 ·rw [decide_eq_false (by omega)] at s1 s2
  rw [decide_eq_true (by omega)] at s3
  rw [decide_eq_false (by omega)] at s4
  rw [s1,s2,s3,s4] at SH
  have hH:bL [⟨(hdF f.k).toArray⟩,⟨(brkt (bL f.vars)).toArray⟩]=fmH f:=by rw [fmH_eq,if_neg e3,s1,s2,s3,s4];rfl
  exact ftx_E f.k f.op f.lo f.hi f.nm f.opn pv pt ps pr _ _ _ _ cv ct cs cr ⟨(hdF f.k).toArray⟩ _ _ _ _ _ (f.terms.map tT) (f.rgx.map tR) (f.subs.map tF) _ w e1 e2 SH (VCg f.vars _ hall hv8 ⟨h63,pv,cv,rfl,hcv,hVc⟩) ET ER EF (by simp;omega) (by simp;omega) (by simp;omega) (BKg _ hH e1 e2) hd0
 by_cases e19:f.k=19
 ·rw [decide_eq_true (by omega)] at s1 s2 s3
  rw [decide_eq_false (by omega)] at s4
  rw [s1,s2,s3,s4] at SH
  have hn1:1≤f.vars.length:=fm_19 hE e19
  obtain ⟨bv,ov,hpv,hbv,hcells⟩:∃ b off,pv=some ⟨b,off,none⟩∧b<w.heap.size∧∀ i (h:i<f.vars.length),w.cell? ⟨b,off+i,none⟩=some (.string f.vars[i]):=by
   rcases hVc with h | h
   ·rw [h] at hn1;simp at hn1
   ·exact h
  subst hpv
  have hV0:w.cell? ⟨bv,ov,none⟩=some (.string (f.vars.headD ⟨#[]⟩)):=by
   have q:=hcells 0 (by omega)
   rw [Nat.add_zero] at q
   rw [q,headD_get f.vars (by omega)]
  have hH:bL [⟨(hdF f.k).toArray⟩,f.nm,⟨(hdO f.op).toArray⟩,f.vars.headD ⟨#[]⟩,⟨(brkt (bL (f.vars.drop 1))).toArray⟩]=fmH f:=by rw [fmH_eq,if_neg e3,s1,s2,s3,s4];rfl
  have hNV:NmsAt w (.slice (some ⟨bv,ov,none⟩) f.vars.length cv) f.vars:=⟨h63,_,cv,rfl,hcv,Or.inr ⟨bv,ov,rfl,hbv,hcells⟩⟩
  exact ftx_A f.k f.op f.lo f.hi f.nm f.opn bv ov pt ps pr _ _ _ _ cv ct cs cr ⟨(hdF f.k).toArray⟩ _ _ _ _ _ _ _ (f.terms.map tT) (f.rgx.map tR) (f.subs.map tF) _ w e1 e2 SH (fun W=>opWord_any f.op W) hbv hV0 hn1 hcv (fun W q hW hq=>VCg (f.vars.drop 1) _ (fun s hs=>hall s (List.mem_of_mem_drop hs)) (by simp;omega) (hNV.drop1 q hq hn1) W hW) ET ER EF (by simp;omega) (by simp;omega) (by simp;omega) (BKg _ hH e1 e2) hd0
 by_cases e20:f.k=20∨f.k=21
 ·rw [decide_eq_true (by omega)] at s1 s3
  rw [decide_eq_false (by omega)] at s2 s4
  rw [s1,s2,s3,s4] at SH
  have hH:bL [⟨(hdF f.k).toArray⟩,f.nm,⟨(brkt (bL f.vars)).toArray⟩]=fmH f:=by rw [fmH_eq,if_neg e3,s1,s2,s3,s4];rfl
  exact ftx_L f.k f.op f.lo f.hi f.nm f.opn pv pt ps pr _ _ _ _ cv ct cs cr ⟨(hdF f.k).toArray⟩ _ _ _ _ _ (f.terms.map tT) (f.rgx.map tR) (f.subs.map tF) _ w e1 e2 SH (VCg f.vars _ hall hv8 ⟨h63,pv,cv,rfl,hcv,hVc⟩) ET ER EF (by simp;omega) (by simp;omega) (by simp;omega) (BKg _ hH e1 e2) hd0
 by_cases eT:11≤f.k∧f.k≤18
 ·rw [decide_eq_false (by omega)] at s1 s2 s3
  rw [decide_eq_true (by omega)] at s4
  obtain ⟨-, -,f3, -⟩:=shp_frm (k:=f.k) (by omega) k22
  rw [← f3,s4] at p4
  have hiv:itvU f.lo f.hi f.opn=true:=by unfold itvB at p4;rwa [if_pos rfl] at p4
  obtain ⟨i1,i2,i3,i4⟩:=itvU_facts hiv
  rw [s1,s2,s3,s4] at SH
  have hH:bL [⟨(hdF f.k).toArray⟩,⟨(ivT f.lo f.hi f.opn).toArray⟩]=fmH f:=by rw [fmH_eq,if_neg e3,s1,s2,s3,s4];rfl
  have hhi: -9223372036854775808≤f.hi∧f.hi≤9223372036854775807:=by
   cases ho:f.opn with
   | true=>have:=i3 ho;omega
   | false=>have:=i4 ho;omega
  exact ftx_T f.k f.op f.lo f.hi f.nm f.opn pv pt ps pr _ _ _ _ cv ct cs cr ⟨(hdF f.k).toArray⟩ _ _ _ _ _ (f.terms.map tT) (f.rgx.map tR) (f.subs.map tF) _ w e1 e2 SH (fun W hW=>ivt_any f.lo f.hi f.opn W (by omega) (by omega) hhi.1 hhi.2 (ht.below hW)) ET ER EF (by simp;omega) (by simp;omega) (by simp;omega) (BKg _ hH e1 e2) hd0
 ·rw [decide_eq_false (by omega)] at s1 s2 s3 s4
  rw [s1,s2,s3,s4] at SH
  have hH:bL [⟨(hdF f.k).toArray⟩]=fmH f:=by rw [fmH_eq,if_neg e3,s1,s2,s3,s4];rfl
  exact ftx_N f.k f.op f.lo f.hi f.nm f.opn pv pt ps pr _ _ _ _ cv ct cs cr ⟨(hdF f.k).toArray⟩ _ _ _ _ (f.terms.map tT) (f.rgx.map tR) (f.subs.map tF) _ w e1 e2 SH ET ER EF (by simp;omega) (by simp;omega) (by simp;omega) (BKg _ hH e1 e2) hd0
theorem both_tx:∀ m:Nat,(∀ (f:Fm) (q:FQ) (w:World),SizeOf.sizeOf f≤m→QAt w (f,q)→wfF f→nodF f≤256→Pow w→TxF f w q.v q.t q.s q.r)∧(∀ (r:Rx) (ut us:Value) (w:World),SizeOf.sizeOf r≤m→FmsAt w ut r.test→RxsAt w us r.subs→wfR r→nodR r≤256→Pow w→TxR r w ut us):=by
 intro m
 induction m with
 | zero=>exact ⟨fun f q w hm=>by have:=Fm.subs_lt f;omega,fun r ut us w hm=>by have:=Rx.subs_lt r;omega⟩
 | succ m ih=>
  constructor
  ·intro f q w hm hq hw hn ht
   have hw':=hw
   rw [wfF_eq] at hw
   have hnn:=hn
   rw [nodF_eq] at hnn
   refine form_tx f q w hq hw' hn ht (fun g uv ut us ur W hg hW n1 n2 n3 n4=> ?_) (fun r ut us W hr hW n1 n2=> ?_)
   ·exact ih.1 g ⟨uv,ut,us,ur⟩ W (by have:=List.sizeOf_lt_of_mem hg;have:=Fm.subs_lt f;omega) ⟨n1,n2,n3,n4⟩ (wfFs_mem hw.2.2.2 g hg) (by have:=nodFs_mem g hg;omega) (ht.below hW)
   ·exact ih.2 r ut us W (by have:=List.sizeOf_lt_of_mem hr;have:=Fm.rgx_lt f;omega) n1 n2 (wfRs_mem hw.2.2.1 r hr) (by have:=nodRs_mem r hr;omega) (ht.below hW)
  ·intro r ut us w hm hT hS hw hn ht
   have hw':=hw
   rw [wfR_eq] at hw
   have hnn:=hn
   rw [nodR_eq] at hnn
   have lT:=nodFs_len r.test
   have lS:=nodRs_len r.subs
   have hlen:=((both_len _).2 [r] (Nat.le_refl _) (by rw [wfRs_cons,wfRs_nil];exact ⟨hw',trivial⟩) (by rw [ftRs_cons,ftR_eq,ftRs];exact ⟨⟨fms_ft hT,rxs_ft hS⟩,trivial⟩)).2 r (by simp)
   have EF:∀ W:World,Below w.heap.size w W→Calls Tryz.prog 43 #[ut,.func (.func 20) #[] #[]] W fun e w'=>∃ v,e=.returned v∧OwnN W.heap.size v (r.test.map tF) w'∧Below W.heap.size W w':=fun W hW=>eachF_any r.test ut W (hT.bel hW) (by omega) (fun i hi uv' ut' us' ur' W' hW' n1 n2 n3 n4=>by
    have hg:r.test[i]∈r.test:=List.getElem_mem hi
    exact ih.1 r.test[i] ⟨uv',ut',us',ur'⟩ W' (by have:=List.sizeOf_lt_of_mem hg;have:=Rx.test_lt r;omega) ⟨n1.below hW',n2.bel hW',n3.bel hW',n4.bel hW'⟩ (wfFs_mem hw.2.1 _ hg) (by have:=nodFs_mem _ hg;omega) ((ht.below hW).below hW'))
   have ER:∀ W:World,Below w.heap.size w W→Calls Tryz.prog 41 #[us,.func (.func 42) #[] #[]] W fun e w'=>∃ v,e=.returned v∧OwnN W.heap.size v (r.subs.map tR) w'∧Below W.heap.size W w':=fun W hW=>eachR_any r.subs us W (hS.bel hW) (by omega) (fun i hi ut' us' W' hW' n1 n2=>by
    have hg:r.subs[i]∈r.subs:=List.getElem_mem hi
    exact ih.2 r.subs[i] ut' us' W' (by have:=List.sizeOf_lt_of_mem hg;have:=Rx.subs_lt r;omega) (n1.bel hW') (n2.bel hW') (wfRs_mem hw.2.2 _ hg) (by have:=nodRs_mem _ hg;omega) ((ht.below hW).below hW'))
   obtain ⟨pt,ct,rfl, -⟩:=hT.form
   obtain ⟨ps,cs,rfl, -⟩:=hS.form
   unfold TxR
   by_cases e1:r.k=1
   ·rw [txR_eq,if_pos e1,e1]
    exact rtx_1 _ _ _ _ _ _ w
   have e:bL ([⟨(hdR r.k).toArray⟩]++r.test.map tF++r.subs.map tR)=hdR r.k::(txFs r.test++txRs r.subs):=by
    rw [bL_app,bL_app,bL_F,bL_R,List.append_assoc]
    rfl
   have e2:txR r=brkt (bL ([⟨(hdR r.k).toArray⟩]++r.test.map tF++r.subs.map tR)):=by rw [e,txR_eq,if_neg e1]
   refine rtx_n r.k _ _ _ _ _ _ w e1 (r.test.map tF) (r.subs.map tR) ⟨(hdR r.k).toArray⟩ _ (show _=_ from rfl) (by simp;omega) (by simp;omega) EF ER (fun W V hV=> ?_)
   rw [e2] at hlen ⊢
   refine brk_any _ V W hV ?_
   unfold brkt at hlen
   simp only [List.length_cons,List.length_append,List.length_nil] at hlen
   omega
theorem txF_any {f:Fm} (hc:chkF f=0) (q:FQ) (w:World) (hq:QAt w (f,q)) (ht:Pow w):TxF f w q.v q.t q.s q.r:=by
 obtain ⟨hw,hn, -, -⟩:=(chk_iff f).1 hc
 exact (both_tx _).1 f q w (Nat.le_refl _) hq hw hn ht
def prtP (f:Fm):List UInt8:=if chkF f=0 then txF f else []
theorem print_syn (f:Fm) (q:FQ) (w:World) (hq:QAt w (f,q)) (ht:Pow w):Calls Tryz.prog 10 #[.agg #[.int .i64 f.k,.string f.nm,.int .i64 f.op,q.v,q.t,.int .i64 f.lo,.int .i64 f.hi,.bool f.opn,q.s,q.r]] w fun e w'=>e=.returned (.tuple #[.string ⟨(prtP f).toArray⟩,.int .i64 (chkF f)])∧Below w.heap.size w w':=by
 have CK:Hid (∀ W:World,Below w.heap.size w W→Calls Tryz.prog 19 #[.agg #[.int .i64 f.k,.string f.nm,.int .i64 f.op,q.v,q.t,.int .i64 f.lo,.int .i64 f.hi,.bool f.opn,q.s,q.r]] W fun r w'=>r=.returned (.int .i64 (chkF f))∧Below W.heap.size W w'):=fun W hW=>check_fm f q W (hq.below hW)
 have TX:Hid (chkF f=0→∀ W:World,Below w.heap.size w W→TxF f W q.v q.t q.s q.r):=fun hc W hW=>txF_any hc q W (hq.below hW) (ht.below hW)
 obtain ⟨uv,ut,us,ur⟩:=q
 obtain ⟨k1,k2,k3,k4⟩:=hq
 dsimp only at k1 k2 k3 k4 CK TX ⊢
 obtain ⟨-,pv,cv,rfl, -⟩:=k1
 obtain ⟨pt,ct,rfl, -⟩:=k2.form
 obtain ⟨ps,cs,rfl, -⟩:=k3.form
 obtain ⟨pr,cr,rfl, -⟩:=k4.form
 clear k2 k3 k4 ht
 unfold TxF at TX
 unfold prtP
 generalize f.k=fk at*
 generalize f.nm=fnm at*
 generalize f.op=fop at*
 generalize f.lo=flo at*
 generalize f.hi=fhi at*
 generalize f.opn=fpn at*
 generalize f.vars.length=nv at*
 generalize f.terms.length=nt at*
 generalize f.subs.length=ns at*
 generalize f.rgx.length=nr at*
 generalize txF f=tx at*
 generalize chkF f=E at*
 by_cases hE:E=0
 ·subst hE
  rw [if_pos rfl]
  have TX0:=TX.out rfl
  have TX1:Hid (∀ W:World,Below w.heap.size w W→Calls Tryz.prog 20 #[.agg #[.int .i64 fk,.string fnm,.int .i64 fop,.slice pv nv cv,.slice pt nt ct,.int .i64 flo,.int .i64 fhi,.bool fpn,.slice ps ns cs,.slice pr nr cr]] W fun e w'=>e=.returned (.string ⟨tx.toArray⟩)∧Below W.heap.size W w'):=TX0
  clear TX TX0
  go_enter Tryz.func10,Tryz.ntmps10
  go_wp2_with fail
  refine (CK.out _ (by go_grown)).mono ?_
  rintro e w1 ⟨rfl,hb1⟩
  have X1:Hid (w1.heap[w.heap.size]? =some (.cells #[.int .i64 fk,.string fnm,.int .i64 fop,.slice pv nv cv,.slice pt nt ct,.int .i64 flo,.int .i64 fhi,.bool fpn,.slice ps ns cs,.slice pr nr cr] 29 (0,0))):=(hb1.block _ (by simp)).trans (new_box w _)
  have B1:Below w.heap.size w w1:=((Below.refl w.heap.size w).alloc (Nat.le_refl _) _).trans (hb1.mono (by simp))
  clear hb1 CK
  obtain ⟨x0,x1,x2,x3,x4,x5,x6,x7,x8,x9⟩:=bx10 X1.out
  go_wp2_with fail
  refine (TX1.out _ B1).mono ?_
  rintro e w2 ⟨rfl,hb2⟩
  go_wp2
  go_ret2
  exact ⟨rfl,B1.trans (hb2.mono B1.size)⟩
 ·rw [if_neg hE]
  have hE':(E != 0)=true:=by simpa using hE
  clear TX
  go_enter Tryz.func10,Tryz.ntmps10
  go_wp2_with fail
  refine (CK.out _ (by go_grown)).mono ?_
  rintro e w1 ⟨rfl,hb1⟩
  have B1:Below w.heap.size w w1:=((Below.refl w.heap.size w).alloc (Nat.le_refl _) _).trans (hb1.mono (by simp))
  go_wp2
  go_ret2
  exact ⟨rfl,B1⟩
theorem three {W:World} {P Q R TP TQ TR:Nat} {a0 a1 a2 a3 a4 a5 a6 a7 a8 a9 v0 v1 v2 v3 v4 v5 v6 v7 v8 v9 b c u v:Value} (hX:W.heap[P]? =some (.cells #[a0,a1,a2,a3,a4,a5,a6,a7,a8,a9] TP (0,0))) (hE:W.heap[Q]? =some (.cells #[b] TQ (0,0))) (hA:W.heap[R]? =some (.cells #[c] TR (0,0))) (hPQ:P≠Q) (hPR:P≠R) (hQR:Q≠R):
  ((((((((((((W.setCell ⟨P,0,none⟩ v0).setCell ⟨P,1,none⟩ v1).setCell ⟨P,2,none⟩ v2).setCell ⟨P,3,none⟩ v3).setCell ⟨P,4,none⟩ v4).setCell ⟨P,5,none⟩ v5).setCell ⟨P,6,none⟩ v6).setCell ⟨P,7,none⟩ v7).setCell ⟨P,8,none⟩ v8).setCell ⟨P,9,none⟩ v9).setCell ⟨Q,0,none⟩ u).setCell ⟨R,0,none⟩ v).heap[P]? =some (.cells #[v0,v1,v2,v3,v4,v5,v6,v7,v8,v9] TP (0,0))∧((((((((((((W.setCell ⟨P,0,none⟩ v0).setCell ⟨P,1,none⟩ v1).setCell ⟨P,2,none⟩ v2).setCell ⟨P,3,none⟩ v3).setCell ⟨P,4,none⟩ v4).setCell ⟨P,5,none⟩ v5).setCell ⟨P,6,none⟩ v6).setCell ⟨P,7,none⟩ v7).setCell ⟨P,8,none⟩ v8).setCell ⟨P,9,none⟩ v9).setCell ⟨Q,0,none⟩ u).setCell ⟨R,0,none⟩ v).heap[Q]? =some (.cells #[u] TQ (0,0))∧((((((((((((W.setCell ⟨P,0,none⟩ v0).setCell ⟨P,1,none⟩ v1).setCell ⟨P,2,none⟩ v2).setCell ⟨P,3,none⟩ v3).setCell ⟨P,4,none⟩ v4).setCell ⟨P,5,none⟩ v5).setCell ⟨P,6,none⟩ v6).setCell ⟨P,7,none⟩ v7).setCell ⟨P,8,none⟩ v8).setCell ⟨P,9,none⟩ v9).setCell ⟨Q,0,none⟩ u).setCell ⟨R,0,none⟩ v).heap[R]? =some (.cells #[v] TR (0,0)):=by
 have h1:=put10 (v0:=v0) (v1:=v1) (v2:=v2) (v3:=v3) (v4:=v4) (v5:=v5) (v6:=v6) (v7:=v7) (v8:=v8) (v9:=v9) hX
 have hK:∀ k,k≠P→((((((((((W.setCell ⟨P,0,none⟩ v0).setCell ⟨P,1,none⟩ v1).setCell ⟨P,2,none⟩ v2).setCell ⟨P,3,none⟩ v3).setCell ⟨P,4,none⟩ v4).setCell ⟨P,5,none⟩ v5).setCell ⟨P,6,none⟩ v6).setCell ⟨P,7,none⟩ v7).setCell ⟨P,8,none⟩ v8).setCell ⟨P,9,none⟩ v9).heap[k]? =W.heap[k]?:=fun k hk=>by
  iterate 10 rw [Below.heap_setCell _ _ _ _ (fun e=>hk e)]
 refine ⟨?_, ?_, ?_⟩
 ·rw [Below.heap_setCell _ _ _ _ (fun e=>hPR e),Below.heap_setCell _ _ _ _ (fun e=>hPQ e)]
  exact h1
 ·rw [Below.heap_setCell _ _ _ _ (fun e=>hQR e)]
  exact set_heap ((hK Q (fun e=>hPQ e.symm)).trans hE) u
 ·refine set_heap (cs:=#[c]) ?_ v
  rw [Below.heap_setCell _ _ _ _ (by intro e;exact hQR e.symm),hK R (fun e=>hPR e.symm)]
  exact hA
theorem drewH (X:World):X.drew.heap=X.heap:=rfl
theorem assert_fault (v:Value) (w:World):(Instr.typeAssert (.iface 53 v) 20 53 false).run Tryz.prog w=.ok v w:=by kernel_rfl
theorem catch_idle (p q r:Addr) (w:World):
  CallsD Tryz.prog 16 #[.pointer (some p),.pointer (some q),.pointer (some r)] .returning w fun e u' w'=>e=.returned (.tuple #[])∧u'=.returning∧w'=w:=by
 refine callsD_of_wpS Tryz.func16 rfl fun c₀ cs hu=> ?_
 apply wpS_seq
 apply wpS_region
 simp [wpOpsS,go_sem,recoverD,hu,Tryz.ntmps16,Exit.thenS]
 apply wpS_seq
 apply wpS_region
 simp [wpOpsS,go_sem,recoverD,hu,Exit.thenS]
 refine wpS_cond (t:=false) (by simp [Act.eval,Array.replicate]) ?_
 simp only [Bool.false_eq_true,if_false]
 refine wpS_of_wp (wp_skip ?_)
 cases c₀
 simp_all [bodyPostS,results,Tryz.results16]
theorem catch_panicking (P Q R:Nat) (er a eE eA:Int) (Z:List Value) (older:List PanicEntry) (w:World) (z0 z1 z2 z3 z4 z5 z6 z7 z8 z9:Value) (hX:w.heap[P]? =some (.cells #[z0,z1,z2,z3,z4,z5,z6,z7,z8,z9] 29 (0,0))) (hE:w.heap[Q]? =some (.cells #[.int .i64 eE] 30 (0,0))) (hA:w.heap[R]? =some (.cells #[.int .i64 eA] 3 (0,0))) (hPQ:P≠Q) (hPR:P≠R) (hQR:Q≠R):
  CallsD Tryz.prog 16 #[.pointer (some ⟨P,0,none⟩),.pointer (some ⟨Q,0,none⟩),.pointer (some ⟨R,0,none⟩)] (.panicking ({v:=.iface 53 (.agg #[.int .i64 er,.int .i64 a]),recovered:=false}::older)) w fun e u' w'=>e=.returned (.tuple #[])∧u'=.panicking ({v:=.iface 53 (.agg #[.int .i64 er,.int .i64 a]),recovered:=true}::older)∧Fr (fun k=>k=P∨k=Q∨k=R) w w'∧w'.heap[P]? =some (.cells #[.int .i64 0,.string ⟨#[]⟩,.int .i64 0,.slice none 0 0,.slice none 0 0,.int .i64 0,.int .i64 0,.bool false,.slice none 0 0,.slice none 0 0] 29 (0,0))∧w'.heap[Q]? =some (.cells #[.int .i64 er] 30 (0,0))∧w'.heap[R]? =some (.cells #[.int .i64 a] 3 (0,0)):=by
 refine callsD_of_wpS Tryz.func16 rfl fun c₀ cs hu=> ?_
 apply wpS_seq
 apply wpS_region
 simp [wpOpsS,go_sem,recoverD,hu,Tryz.ntmps16,Exit.thenS]
 apply wpS_seq
 apply wpS_region
 simp [wpOpsS,go_sem,recoverD,Exit.thenS]
 refine wpS_cond (t:=true) (by simp [Act.eval,Array.replicate]) ?_
 simp only [if_true]
 refine wpS_of_wp ?_
 have hta:∀ (v:Value) (w:World),(Instr.typeAssert (.iface 53 v) 20 53 false).run Tryz.prog w=.ok v w:=assert_fault
 obtain ⟨x0,x1,x2,x3,x4,x5,x6,x7,x8,x9⟩:=bx10 hX
 obtain ⟨f0,f1,f2,f3,f4,f5,f6,f7,f8,f9⟩:=bz10 hX
 have y0:w.cell? ⟨Q,0,none⟩=some (.int .i64 eE):=by rw [Lib.cell_of_heap hE];rfl
 have g0:w.frozen? ⟨Q,0,none⟩=false:=Lib.frozen_of_heap hE _
 have t0:w.cell? ⟨R,0,none⟩=some (.int .i64 eA):=by rw [Lib.cell_of_heap hA];rfl
 have u0:w.frozen? ⟨R,0,none⟩=false:=Lib.frozen_of_heap hA _
 have lP:P<w.heap.size:=lt_heap hX
 have lQ:Q<w.heap.size:=lt_heap hE
 have lR:R<w.heap.size:=lt_heap hA
 go_upto_region 3 with fail
 refine wp_world ?_
 intro W3 hW3
 have X3:Hid (W3.heap[P]? =some (.cells #[z0,z1,z2,z3,z4,z5,z6,z7,z8,z9] 29 (0,0))):=by rw [hW3];exact (Below.heap_alloc _ _ _ lP).trans hX
 have E3:Hid (W3.heap[Q]? =some (.cells #[.int .i64 eE] 30 (0,0))):=by rw [hW3];exact (Below.heap_alloc _ _ _ lQ).trans hE
 have A3:Hid (W3.heap[R]? =some (.cells #[.int .i64 eA] 3 (0,0))):=by rw [hW3];exact (Below.heap_alloc _ _ _ lR).trans hA
 have G3:Hid (W3.heap[w.heap.size]? =some (.cells #[.int .i64 er,.int .i64 a] 53 (0,0))):=by rw [hW3];exact new_box w _
 have F3:Hid (Fr (fun k=>k=P∨k=Q∨k=R) w W3):=by rw [hW3];exact (Fr.refl _ w).alloc _
 have nP:P≠w.heap.size:=by omega
 have nQ:Q≠w.heap.size:=by omega
 have nR:R≠w.heap.size:=by omega
 generalize w.heap.size=G at*
 clear hW3 x0 x1 x2 x3 x4 x5 x6 x7 x8 x9 f0 f1 f2 f3 f4 f5 f6 f7 f8 f9 y0 g0 t0 u0 lP lQ lR hX hE hA hta
 obtain ⟨x0,x1,x2,x3,x4,x5,x6,x7,x8,x9⟩:=bx10 X3.out
 obtain ⟨f0,f1,f2,f3,f4,f5,f6,f7,f8,f9⟩:=bz10 X3.out
 have y0:W3.cell? ⟨Q,0,none⟩=some (.int .i64 eE):=by rw [Lib.cell_of_heap E3.out];rfl
 have g0:W3.frozen? ⟨Q,0,none⟩=false:=Lib.frozen_of_heap E3.out _
 have t0:W3.cell? ⟨R,0,none⟩=some (.int .i64 eA):=by rw [Lib.cell_of_heap A3.out];rfl
 have u0:W3.frozen? ⟨R,0,none⟩=false:=Lib.frozen_of_heap A3.out _
 have q0:W3.cell? ⟨G,0,none⟩=some (.int .i64 er):=by rw [Lib.cell_of_heap G3.out];rfl
 have q1:W3.cell? ⟨G,1,none⟩=some (.int .i64 a):=by rw [Lib.cell_of_heap G3.out];rfl
 have nPQ:¬ Q=P:=fun e=>hPQ e.symm
 have nPR:¬ R=P:=fun e=>hPR e.symm
 have nQR:¬ R=Q:=fun e=>hQR e.symm
 go_region
 all_goals (
  generalize hWF:World.drew _=WF
  have XF:WF.heap[P]? =some (.cells #[.int .i64 0,.string ⟨#[]⟩,.int .i64 0,.slice none 0 0,.slice none 0 0,.int .i64 0,.int .i64 0,.bool false,.slice none 0 0,.slice none 0 0] 29 (0,0)):=by rw [← hWF,drewH];exact (three X3.out E3.out A3.out hPQ hPR hQR).1
  have EF:WF.heap[Q]? =some (.cells #[.int .i64 er] 30 (0,0)):=by rw [← hWF,drewH];exact (three X3.out E3.out A3.out hPQ hPR hQR).2.1
  have AF:WF.heap[R]? =some (.cells #[.int .i64 a] 3 (0,0)):=by rw [← hWF,drewH];exact (three X3.out E3.out A3.out hPQ hPR hQR).2.2
  have FF:Fr (fun k=>k=P∨k=Q∨k=R) w WF:=by rw [← hWF];exact (((frp10 F3.out (Or.inl (Or.inl rfl)) _ _ _ _ _ _ _ _ _ _).setCell (p:=⟨Q,0,none⟩) (Or.inl (Or.inr (Or.inl rfl))) _).setCell (p:=⟨R,0,none⟩) (Or.inl (Or.inr (Or.inr rfl))) _).drew
  clear hWF x0 x1 x2 x3 x4 x5 x6 x7 x8 x9 f0 f1 f2 f3 f4 f5 f6 f7 f8 f9 y0 g0 t0 u0 q0 q1 X3 E3 A3 F3 G3 nPQ nPR nQR
  exact ⟨rfl,_,rfl,_,results_none rfl _ _ _,rfl,rfl,FF,XF,EF,AF⟩)
end Go.Proofs.YticnfeolbfmgfaaGreatDoor
namespace Go.Proofs.YticnfeolbfmgfaaGreatDoor
open Go.RowKit Go.Shelf LX
set_option linter.unusedVariables false
theorem own_bel7 {w w':World} {B e size n:Nat} {v:Value} {xs:List Value} (h:w.ownsRow B e size v n xs) (hb:Below w.heap.size w w'):w'.ownsRow B e size v n xs:=
 World.ownsRow.kept h (row:=none) ⟨hb.os,hb.tape,hb.output,hb.size,fun k hk _=>hb.block k hk⟩ (by cases hv:v.ownBlock with | none=>exact Or.inl rfl | some k=>exact Or.inr (by intro h;cases h))
theorem grownBy_setCell (w:World) (b i:Nat) (v:Value):w.grownBy (w.setCell ⟨b,i,none⟩ v) (some b):=
 ⟨rfl,rfl,rfl,by simp [World.setCell],fun k _ hk=>Below.heap_setCell _ _ _ _ (fun e=>hk (by simp [e]))⟩
theorem own_set {w:World} {B e size n T j:Nat} {v u:Value} {xs:List Value} (h:w.ownsRow B e size v n xs) (hT:T<B):(w.setCell ⟨T,j,none⟩ u).ownsRow B e size v n xs:=by
 refine World.ownsRow.kept h (grownBy_setCell w T j u) ?_
 by_cases hv:v.ownBlock=none
 ·exact Or.inl hv
 ·refine Or.inr fun e=> ?_
  have:=(World.ownsRow.lt h T e).1
  omega
def tcells (t:Tok Val):List Value:=[.int .i64 t.k,.int .i64 t.at_,.string ⟨t.x.toArray⟩,.int .i64 t.v.k,.int .i64 t.v.n,.int .i64 t.v.d,.string t.v.s]
def flatT (L:List (Tok Val)):List Value:=L.flatMap tcells
theorem flatT_more (L:List (Tok Val)) (t:Tok Val):flatT L++tcells t=flatT (L++[t]):=by simp [flatT]
def OwnT7 (B:Nat) (v:Value) (L:List (Tok Val)) (w:World):Prop:=w.ownsRow B 58 7 v L.length (flatT L)
theorem inT:(Tryz.prog.info? 58).map (fun i=>(i.zero,i.size,i.bytes))=some (some (.agg #[.int .i64 0,.int .i64 0,.string ⟨#[]⟩,.int .i64 0,.int .i64 0,.int .i64 0,.string ⟨#[]⟩]),7,72):=by kernel_rfl
structure FrK (a:Act) (s:ByteArray) (v:Value) (B p:Nat):Prop where
 d:a.defers=[]
 n:a.tmps.size=47
 x0:a.tmps[0]? =some (.string s)
 x5:a.tmps[5]? =some v
 x6:a.tmps[6]? =some (.pointer (some ⟨B,0,none⟩))
 x8:a.tmps[8]? =some (.int .i64 p)
theorem FrK.lit {a:Act} {s:ByteArray} {v:Value} {B p:Nat} (h:FrK a s v B p):∃ u:Nat→Value,a={tmps:=#[.string s,u 1,u 2,u 3,u 4,v,.pointer (some ⟨B,0,none⟩),u 7,.int .i64 (p:Nat),u 9,u 10,u 11,u 12,u 13,u 14,u 15,u 16,u 17,u 18,u 19,u 20,u 21,u 22,u 23,u 24,u 25,u 26,u 27,u 28,u 29,u 30,u 31,u 32,u 33,u 34,u 35,u 36,u 37,u 38,u 39,u 40,u 41,u 42,u 43,u 44,u 45,u 46],defers:=[]}:=by
 obtain ⟨t,d⟩:=a
 obtain ⟨h1,h2,h3,h4,h5,h6⟩:=h
 dsimp only at h1 h2 h3 h4 h5 h6
 subst h1
 obtain ⟨l⟩:=t
 have h2':l.length=47:=by simpa using h2
 have hl:=list_of 47 l h2'
 have get:∀ (j:Nat) (y:Value),(Array.mk l)[j]? =some y→l.getD j undef=y:=by
  intro j y hy
  have:l[j]? =some y:=by simpa using hy
  simp [List.getD,this]
 have e0:=get _ _ h3
 have e5:=get _ _ h4
 have e6:=get _ _ h5
 have e8:=get _ _ h6
 refine ⟨fun i=>l.getD i undef, ?_⟩
 rw [← e0,← e5,← e6,← e8]
 congr 1
 exact congrArg Array.mk hl
def Left (l:List UInt8) (L:List (Tok Val)) (p:Nat):Prop:=T sdB l 0=(L++(T sdB (l.drop p) p).1,(T sdB (l.drop p) p).2)
theorem tokens_run (s:ByteArray) (w:World) (hs:s.size≤16384) (ht:Pow w) (he:Errs w) (h8:6≤w.heap.size):
  Calls Tryz.prog 17 #[.string s] w fun e w'=>Below w.heap.size w w'∧((∃ p:Nat,(T sdB s.data.toList 0).2=some p∧e=.returned (.tuple #[.slice none 0 0,.int .i64 50,.int .i64 p]))∨((T sdB s.data.toList 0).2=none∧∃ v,e=.returned (.tuple #[v,.int .i64 0,.int .i64 0])∧OwnT7 (w.heap.size+1) v (T sdB s.data.toList 0).1 w')):=by
 obtain ⟨i0,hi,hz0,hz1,hz2⟩:=info_parts inT
 have hl:s.data.toList.length=s.size:=by simp
 have hsz:¬ (16384:Int)<s.size:=by omega
 have HE:Hid (Errs w):=he
 have HP:Hid (Pow w):=ht
 clear he ht
 have TK:Hid (∀ (i:Nat) (W:World),i<s.size→Pow W→Errs W→6≤W.heap.size→Calls Tryz.prog 30 #[.string s,.int .i64 i] W fun e w'=>∃ (K at_ k n d:Int) (x S:ByteArray) (ok:Bool),e=.returned (.tuple #[.agg #[.int .i64 K,.int .i64 at_,.string x,.int .i64 k,.int .i64 n,.int .i64 d,.string S],.bool ok])∧Below W.heap.size W w'∧Hid ((ok=true↔fine sdB (s.data.toList.drop i))∧(ok=true→tokAt sdB (s.data.toList.drop i) i=⟨K.toNat,at_.toNat,x.data.toList,⟨k,n,d,S⟩⟩∧K=K.toNat∧at_=i∧1≤x.size∧i+x.size≤s.size))):=fun i W q1 q2 q3 q4=>token_any s i W hs q1 q2 q3 q4
 go_enter Tryz.func17,Tryz.ntmps17
 go_wp2
 refine wp_scope_gotos (fun l a W=>l=0∧∃ (p:Nat) (v:Value) (L:List (Tok Val)),FrK a s v w.heap.size p∧p≤s.size∧L.length≤p∧Below w.heap.size w W∧w.heap.size<W.heap.size∧Hid (∃ (K at_ k n d:Int) (x S:ByteArray),BlkT W w.heap.size K at_ x k n d S)∧Hid (OwnT7 (w.heap.size+1) v L W)∧Hid (Left s.data.toList L p)) (fun _ a _=>(s.size - intAt a 8).toNat) ?_ ?_
 ·rintro l a W ⟨rfl,p,v,L,hF,hp,hLp,hB,hz,hT,hO,hR⟩
  obtain ⟨u,rfl⟩:=hF.lit
  clear hF
  refine ⟨_,rfl, ?_⟩
  by_cases hn:p=s.size
  ·have hn':(p:Int)=s.size:=by omega
   go_wp2
   simp only [Exit.jumps]
   refine bodyPost_ret (by simp [results,Tryz.results17,go_sem];try rfl) rfl ?_
   have hR':=hR.out
   unfold Left at hR'
   rw [List.drop_eq_nil_of_le (by omega),T_nil] at hR'
   refine ⟨hB,.inr ⟨by rw [hR'],v,rfl, ?_⟩⟩
   rw [hR']
   simpa using hO.out
  ·have hlt:p<s.size:=by omega
   have hn':¬ (p:Int)=s.size:=by omega
   have hdr:=drop_at s p hlt
   have hR':Hid (T sdB s.data.toList 0=(L++(T sdB (s[p]::s.data.toList.drop (p+1)) p).1,(T sdB (s[p]::s.data.toList.drop (p+1)) p).2)):=by
    have:=hR.out
    unfold Left at this
    rw [hdr] at this
    exact this
   clear hR
   by_cases h32:s[p].toNat=32
   ·have h32':((s[p].toNat:Nat):Int)=32:=by omega
    have hbk:blk s[p]=true:=by simp [blk,h32]
    have hb32:((s[p].toNat:Int)==32)=true:=by simpa using h32'
    have hR2:Hid (Left s.data.toList L (p+1)):=by
     have:=hR'.out
     rw [T_blank sdB _ p hbk] at this
     exact this
    clear hR' hdr
    go_wp2
    go_step3
    refine ⟨⟨rfl,p+1,v,L,⟨rfl,rfl,rfl,rfl,rfl,rfl⟩,by omega,by omega,hB,hz,hT,hO,hR2⟩, ?_⟩
    simp [intAt]
    omega
   ·have h32':¬ ((s[p].toNat:Nat):Int)=32:=by omega
    by_cases h10:s[p].toNat=10
    ·have h10':((s[p].toNat:Nat):Int)=10:=by omega
     have hbk:blk s[p]=true:=by simp [blk,h10]
     have hb10:((s[p].toNat:Int)==10)=true:=by simpa using h10'
     have hR2:Hid (Left s.data.toList L (p+1)):=by
      have:=hR'.out
      rw [T_blank sdB _ p hbk] at this
      exact this
     clear hR' hdr
     go_wp2
     go_step3
     refine ⟨⟨rfl,p+1,v,L,⟨rfl,rfl,rfl,rfl,rfl,rfl⟩,by omega,by omega,hB,hz,hT,hO,hR2⟩, ?_⟩
     simp [intAt]
     omega
    ·have h10':¬ ((s[p].toNat:Nat):Int)=10:=by omega
     have hbk:blk s[p]=false:=by simp [blk,h10,h32]
     have hb32:((s[p].toNat:Int)==32)=false:=by simpa using h32'
     have hb10:((s[p].toNat:Int)==10)=false:=by simpa using h10'
     go_wp2_with fail
     refine (TK.out p W hlt (HP.out.below hB) (HE.out.below hB h8) (by omega)).mono ?_
     rintro e w1 ⟨K,at_,k,n,d,x,S,ok,rfl,hb1,hk⟩
     obtain ⟨K0,at0,k0,n0,d0,x0,S0,hT0⟩:=hT.out
     have R1:Hid (BlkT w1 w.heap.size K0 at0 x0 k0 n0 d0 S0):=hT0.below hb1 hz
     have B1:Below w.heap.size w w1:=hB.trans (hb1.mono hB.size)
     have O1:Hid (OwnT7 (w.heap.size+1) v L w1):=own_bel7 hO.out hb1
     have z1:w.heap.size<w1.heap.size:=by have:=hb1.size;omega
     clear hT hT0 hO hb1 hB hz
     obtain ⟨r0,r1,r2,r3,r4,r5,r6,q0,q1,q2,q3,q4,q5,q6⟩:=R1.out
     go_upto_region 12 with fail
     refine wp_world ?_
     intro W2 hW2
     have R2:Hid (BlkT W2 w.heap.size K at_ x k n d S):=by rw [hW2];exact R1.out.seven
     have B2:Below w.heap.size w W2:=by rw [hW2];exact below7 B1 (Nat.le_refl _) _ _ _ _ _ _ _
     have O2:Hid (OwnT7 (w.heap.size+1) v L W2):=by rw [hW2];exact own_set (own_set (own_set (own_set (own_set (own_set (own_set O1.out (by omega)) (by omega)) (by omega)) (by omega)) (by omega)) (by omega)) (by omega)
     have z2:w.heap.size<W2.heap.size:=by rw [hW2];simpa using z1
     clear hW2 R1 B1 O1 z1 r0 r1 r2 r3 r4 r5 r6 q0 q1 q2 q3 q4 q5 q6
     cases ok
     ·have hnf:¬ fine sdB (s[p]::s.data.toList.drop (p+1)):=by
       rw [← hdr];intro h;have:=hk.out.1.2 h;cases this
      have hR2:=hR'.out
      rw [T_none sdB p hbk hnf] at hR2
      go_wp2
      simp only [Exit.jumps]
      refine bodyPost_ret (by simp [results,Tryz.results17,go_sem];try rfl) rfl ?_
      exact ⟨B2,.inl ⟨p,by rw [hR2],rfl⟩⟩
     ·obtain ⟨k1,k2,k3,k4,k5⟩:=hk.out.2 rfl
      have hf:fine sdB (s[p]::s.data.toList.drop (p+1)):=by rw [← hdr];exact hk.out.1.1 rfl
      have hxl:x.data.toList.length=x.size:=by simp
      have hbn:(beh (s.data.toList.drop p)).2=x.size:=by
       have h1:(tokAt sdB (s.data.toList.drop p) p).x.length=(beh (s.data.toList.drop p)).2:=by
        have:=beh_le (s.data.toList.drop p) (by rw [hdr];exact hf.1)
        show ((s.data.toList.drop p).take _).length=_
        simp at this ⊢
        omega
       rw [k1] at h1
       rw [← h1];exact hxl
      have hR2:Hid (Left s.data.toList (L++[⟨K.toNat,at_.toNat,x.data.toList,⟨k,n,d,S⟩⟩]) (p+x.size)):=by
       have h:=hR'.out
       rw [T_tok sdB p hbk hf,← hdr,k1,hbn,List.drop_drop] at h
       show T sdB _ 0=_
       rw [h]
       simp
      have hnews:Hid ([.int .i64 K,.int .i64 at_,.string x,.int .i64 k,.int .i64 n,.int .i64 d,.string S]=tcells ⟨K.toNat,at_.toNat,x.data.toList,⟨k,n,d,S⟩⟩):=by
       show _=[Value.int .i64 (K.toNat:Int),.int .i64 (at_.toNat:Int),.string ⟨x.data.toList.toArray⟩,.int .i64 k,.int .i64 n,.int .i64 d,.string S]
       rw [← k2,← show at_=at_.toNat by omega]
      clear hk hR' hf hdr hbn k1 k2 k3
      obtain ⟨r0,r1,r2,r3,r4,r5,r6,q0,q1,q2,q3,q4,q5,q6⟩:=R2.out
      have HK:Hid (∀ q,v.ownBlock=some q→w.heap.size+1≤q):=fun q hq=>(World.ownsRow.lt O2.out q hq).1
      go_wp2_with (at_builtin;refine wpList_append_own _ rfl (.tmp 38) (.tmp 40) 54 rfl (w.heap.size+1) 58 i0 (.agg #[.int .i64 0,.int .i64 0,.string ⟨#[]⟩,.int .i64 0,.int .i64 0,.int .i64 0,.string ⟨#[]⟩]) 7 72 Tryz.underlying54 hi hz0 hz1 hz2 rfl (by decide) _ _ _ rfl (World.ownsRow.alloc O2.out _) ⟨W2.heap.size,0,none⟩ 1 1 [.int .i64 K,.int .i64 at_,.string x,.int .i64 k,.int .i64 n,.int .i64 d,.string S] rfl rfl ?c1 ?c2 (by unfold maxLen;omega) (by omega) (by simp;omega) ?grow)
      case c1=>(intro j u hj;rw [Addr.add_lit];(rcases j with _ | _ | _ | _ | _ | _ | _ | j)<;>simp at hj<;>subst hj<;>simp (maxDischargeDepth:=12) [go_sem])
      case c2=>(intro u hu;simp at hu;rcases hu with rfl | rfl | rfl | rfl | rfl | rfl | rfl<;>rfl)
      case grow=>
       intro v' w3 h2 h3 _
       have O3:Hid (OwnT7 (w.heap.size+1) v' (L++[⟨K.toNat,at_.toNat,x.data.toList,⟨k,n,d,S⟩⟩]) w3):=by
        show w3.ownsRow _ _ _ _ _ _
        rw [← flatT_more,← hnews.out,List.length_append]
        exact h2
       have G3:Below (w.heap.size+1) W2 w3:=Below.grown ((Below.refl _ W2).alloc (by omega) _) h3 (by simp;omega) HK.out
       have R3:Hid (BlkT w3 w.heap.size K at_ x k n d S):=R2.out.below G3 (by omega)
       have B3:Below w.heap.size w w3:=B2.trans (G3.mono (by omega))
       have z3:w.heap.size<w3.heap.size:=by have:=G3.size;omega
       clear h2 h3 G3 HK O2 R2 B2 r0 r1 r2 r3 r4 r5 r6 q0 q1 q2 q3 q4 q5 q6 hnews
       obtain ⟨r0,r1,r2,r3,r4,r5,r6,q0,q1,q2,q3,q4,q5,q6⟩:=R3.out
       have hxs:(x.size:Int)≤16384:=by omega
       go_wp2
       go_step3
       refine ⟨⟨rfl,p+x.size,v',_,⟨rfl,rfl,rfl,rfl,rfl,rfl⟩,by omega,by simp;omega,B3,z3,⟨_,_,_,_,_,_,_,R3.out⟩,O3,hR2⟩, ?_⟩
       simp [intAt]
       omega
 ·intro PS
  go_wp2
  rename_i hK
  refine wp_label (hK _ _ (PS 0 _ _ _ ⟨rfl,0,.slice none 0 0,[],⟨rfl,rfl,rfl,rfl,rfl,rfl⟩,Nat.zero_le _,Nat.le_refl _,(Below.refl _ w).alloc (Nat.le_refl _) _,by simp,⟨0,0,0,0,0,⟨#[]⟩,⟨#[]⟩, ?_⟩,⟨rfl,.inl ⟨rfl,rfl⟩⟩, ?_⟩ rfl))
  ·constructor<;>simp (maxDischargeDepth:=16) [go_sem]
  ·show T sdB _ 0=_
   simp
theorem tokens_long (s:ByteArray) (w:World) (hs:16384<s.size):
  Calls Tryz.prog 17 #[.string s] w fun e w'=>e=.returned (.tuple #[.slice none 0 0,.int .i64 2,.int .i64 0])∧Below w.heap.size w w':=by
 have hs':(16384:Int)<s.size:=by omega
 go_enter Tryz.func17,Tryz.ntmps17
 go_wp2
 refine wp_scope_gotos (fun _ _ _=>False) (fun _ _ _=>0) ?_ ?_
 ·intro l a w h;exact h.elim
 ·intro _
  go_wp2
  simp only [Exit.jumps]
  refine bodyPost_ret (by simp [results,Tryz.results17,go_sem];try rfl) rfl ?_
  exact ⟨rfl,(Below.refl _ w).alloc (Nat.le_refl _) _⟩
end Go.Proofs.YticnfeolbfmgfaaGreatDoor
namespace Go.Proofs.YticnfeolbfmgfaaGreatDoor
open Go.RowKit LX Go.Shelf
set_option linter.unusedVariables false
theorem T_many (n:Nat):∀ (l:List UInt8) (p:Nat),l.length≤n→(T sdB l p).1.length≤l.length∧∀ t∈(T sdB l p).1,t.x.length≤l.length:=by
 induction n with
 | zero=>
  intro l p hn
  have:l=[]:=List.length_eq_zero_iff.mp (by omega)
  subst this
  simp [T,toks]
 | succ n ih=>
  intro l p hn
  rcases T_cases sdB l p with ⟨h1,h2⟩ | ⟨b,h1,h2,h2a,h2b,h3,h4⟩ | ⟨b,h1,h2,h2a,h2b,h3,h4⟩
  ·rw [h2];simp
  ·rw [h4]
   have hle:=beh_le _ h3.1
   obtain ⟨i1,i2⟩:=ih (l.drop (b+(beh (l.drop b)).2)) (p+b+(beh (l.drop b)).2) (by simp;omega)
   simp only [List.length_drop] at i1 i2 hle
   refine ⟨by simp only [List.length_cons];omega,fun t ht=> ?_⟩
   rcases List.mem_cons.1 ht with rfl | ht
   ·show ((l.drop b).take (beh (l.drop b)).2).length≤_
    simp
    omega
   ·have:=i2 t ht;omega
  ·rw [h4];simp
theorem beh_five {l:List UInt8} {n:Nat} (h:beh l=(5,n)):∃ t k,l=91::t∧brk t=some k∧n=1+k:=by
 cases l with
 | nil=>cases h
 | cons c t=>
  rw [beh_cons] at h
  by_cases h1:c.toNat=40
  ·rw [if_pos h1] at h;cases h
  rw [if_neg h1] at h
  by_cases h2:c.toNat=41
  ·rw [if_pos h2] at h;cases h
  rw [if_neg h2] at h
  by_cases h3:lowN c.toNat=true
  ·rw [if_pos h3] at h;cases h
  rw [if_neg h3] at h
  by_cases h4:(digN c.toNat || (c.toNat==45 && digN (hd t)))=true
  ·rw [if_pos h4] at h;cases h
  rw [if_neg h4] at h
  by_cases h5:c.toNat=60∧hd t=61
  ·rw [if_pos h5] at h;cases h
  rw [if_neg h5] at h
  by_cases h6:c.toNat=61∨c.toNat=43∨c.toNat=42∨c.toNat=60∨c.toNat=45
  ·rw [if_pos h6] at h;cases h
  rw [if_neg h6] at h
  by_cases h7:c.toNat=91
  ·rw [if_pos h7] at h
   cases hb:brk t with
   | none=>rw [hb] at h;cases h
   | some k=>
    rw [hb] at h
    have hc:c=91:=UInt8.toNat_inj.1 h7
    injection h with _ h8
    exact ⟨t,k,by rw [hc],hb,h8.symm⟩
  rw [if_neg h7] at h
  by_cases h8:c.toNat=34
  ·rw [if_pos h8] at h
   cases hb:qend false t with
   | none=>rw [hb] at h;cases h
   | some k=>rw [hb] at h;cases h
  rw [if_neg h8] at h
  by_cases h9:c.toNat=64
  ·rw [if_pos h9] at h;cases h
  rw [if_neg h9] at h
  cases h
theorem brk_ends:∀ {t:List UInt8} {k:Nat},brk t=some k→∃ a,t.take k=a++[93]∧a.length+1=k
 | [],k,h=>by cases h
 | c::t,k,h=>by
  unfold brk at h
  by_cases hc:c.toNat=93
  ·rw [if_pos hc] at h
   injection h with h
   subst h
   have:c=93:=UInt8.toNat_inj.1 hc
   exact ⟨[],by simp [this],rfl⟩
  ·rw [if_neg hc] at h
   cases hb:brk t with
   | none=>rw [hb] at h;cases h
   | some j=>
    rw [hb] at h
    injection h with h
    obtain ⟨a,h1,h2⟩:=brk_ends hb
    subst h
    exact ⟨c::a,by rw [List.take_succ_cons,h1];rfl,by simp;omega⟩
theorem sdB_fits (k:Nat) (l:List UInt8):(sdB k l).1.Fits:=by
 have hz:zeroV.Fits:=⟨by decide,by decide,by decide,by decide⟩
 unfold sdB
 split
 ·exact hz
 split
 ·exact hz
 split
 ·exact lprs_fits l
 split
 ·unfold numB
  split
  ·exact lprs_fits _
  ·exact hz
 ·exact hz
theorem toks_ok {l:List UInt8} (hl:l.length≤16384):(T sdB l 0).1.length≤16384∧∀ t∈(T sdB l 0).1,TkOk t:=by
 obtain ⟨h1,h2⟩:=T_many l.length l 0 (Nat.le_refl _)
 refine ⟨by omega,fun t ht=> ?_⟩
 have g:=T_good sdB l.length l (Nat.le_refl _) 0 t ht
 refine ⟨?_, ?_,fun h5=> ?_,by have:=h2 t ht;omega⟩
 ·have e:=g.s
  have:=sdB_fits t.k t.x
  rw [e] at this
  exact this
 ·have:=g.k
  omega
 ·have hk:t.k=5:=by omega
  have hb:=g.b
  rw [hk] at hb
  obtain ⟨u,k,e1,e2,e3⟩:=beh_five hb
  obtain ⟨a,e4,e5⟩:=brk_ends e2
  have hu:u.take k=u:=by
   rw [e1] at e3
   simp at e3
   rw [List.take_of_length_le (by omega)]
  rw [hu] at e4
  refine ⟨a,by rw [e1,e4], ?_⟩
  have hs:=g.s
  rw [hk] at hs
  have hs2:(sdB 5 t.x).2=true:=by rw [hs]
  have e6:(t.x.drop 1).take (t.x.length - 2)=a:=by
   rw [e1,e4]
   simp
  have:(sdB 5 t.x).2=ivB ((t.x.drop 1).take (t.x.length - 2)):=rfl
  rw [this,e6] at hs2
  exact hs2
theorem bput10 {B0 B:Nat} {w W:World} (h:Below B0 w W) (hB:B0≤B) (v0 v1 v2 v3 v4 v5 v6 v7 v8 v9:Value):Below B0 w ((((((((((W.setCell ⟨B,0,none⟩ v0).setCell ⟨B,1,none⟩ v1).setCell ⟨B,2,none⟩ v2).setCell ⟨B,3,none⟩ v3).setCell ⟨B,4,none⟩ v4).setCell ⟨B,5,none⟩ v5).setCell ⟨B,6,none⟩ v6).setCell ⟨B,7,none⟩ v7).setCell ⟨B,8,none⟩ v8).setCell ⟨B,9,none⟩ v9):=(Below.setCell (Below.setCell (Below.setCell (Below.setCell (Below.setCell (Below.setCell (Below.setCell (Below.setCell (Below.setCell (Below.setCell h (p:=⟨B,0,none⟩) hB _) (p:=⟨B,1,none⟩) hB _) (p:=⟨B,2,none⟩) hB _) (p:=⟨B,3,none⟩) hB _) (p:=⟨B,4,none⟩) hB _) (p:=⟨B,5,none⟩) hB _) (p:=⟨B,6,none⟩) hB _) (p:=⟨B,7,none⟩) hB _) (p:=⟨B,8,none⟩) hB _) (p:=⟨B,9,none⟩) hB _)
def zFm:Value:=.agg #[.int .i64 0,.string ⟨#[]⟩,.int .i64 0,.slice none 0 0,.slice none 0 0,.int .i64 0,.int .i64 0,.bool false,.slice none 0 0,.slice none 0 0]
theorem par_bad (s:ByteArray) (E A:Int) (w:World) (hE:¬ E=0) (CT:Hid (∀ W:World,Below w.heap.size w W→Calls Tryz.prog 17 #[.string s] W fun e w'=>e=.returned (.tuple #[.slice none 0 0,.int .i64 E,.int .i64 A])∧Below W.heap.size W w')):
  Calls Tryz.prog 9 #[.string s] w fun e w'=>e=.returned (.tuple #[zFm,.int .i64 E,.int .i64 A])∧Below w.heap.size w w':=by
 have hmf:∀ (fn:Fn) (first cap:Array Value) (w:World),(Instr.makeFunc fn first cap).run Tryz.prog w=.ok (.func fn first cap) w:=fun _ _ _ _=>rfl
 have hE':(E != 0)=true:=by simpa using hE
 unfold zFm
 go_enter_defers Tryz.func9,Tryz.ntmps9
 go_wp2_with fail
 refine (CT.out _ (by go_grown)).mono ?_
 rintro e w1 ⟨rfl,hb1⟩
 have z1:w.heap.size+3≤w1.heap.size:=by have:=hb1.size;simp at this;omega
 have X1:Hid (w1.heap[w.heap.size]? =some (.cells #[.int .i64 0,.string ⟨#[]⟩,.int .i64 0,.slice none 0 0,.slice none 0 0,.int .i64 0,.int .i64 0,.bool false,.slice none 0 0,.slice none 0 0] 29 (0,0))):=(hb1.block _ (by simp only [World.size_alloc];omega)).trans ((Below.heap_alloc _ _ _ (by simp only [World.size_alloc];omega)).trans ((Below.heap_alloc _ _ _ (by simp only [World.size_alloc];omega)).trans (new_box w _)))
 have E1:Hid (w1.heap[w.heap.size+1]? =some (.cells #[.int .i64 0] 30 (0,0))):=(hb1.block _ (by simp only [World.size_alloc];omega)).trans ((Below.heap_alloc _ _ _ (by simp only [World.size_alloc];omega)).trans (by have q:=new_box (w.alloc (.cells #[.int .i64 0,.string ⟨#[]⟩,.int .i64 0,.slice none 0 0,.slice none 0 0,.int .i64 0,.int .i64 0,.bool false,.slice none 0 0,.slice none 0 0] 29)) (.cells #[.int .i64 0] 30);simp only [World.size_alloc] at q;exact q))
 have A1:Hid (w1.heap[w.heap.size+2]? =some (.cells #[.int .i64 0] 3 (0,0))):=(hb1.block _ (by simp only [World.size_alloc];omega)).trans (by have q:=new_box ((w.alloc (.cells #[.int .i64 0,.string ⟨#[]⟩,.int .i64 0,.slice none 0 0,.slice none 0 0,.int .i64 0,.int .i64 0,.bool false,.slice none 0 0,.slice none 0 0] 29)).alloc (.cells #[.int .i64 0] 30)) (.cells #[.int .i64 0] 3);simp only [World.size_alloc] at q;exact q)
 have B1:Hid (Below w.heap.size w w1):=((((Below.refl w.heap.size w).alloc (Nat.le_refl _) _).alloc (by simp) _).alloc (by simp;omega) _).trans (hb1.mono (by simp;omega))
 clear hb1 CT
 have y0:w1.cell? ⟨w.heap.size+1,0,none⟩=some (.int .i64 0):=by rw [Lib.cell_of_heap E1.out];rfl
 have g0:w1.frozen? ⟨w.heap.size+1,0,none⟩=false:=Lib.frozen_of_heap E1.out _
 have t0:w1.cell? ⟨w.heap.size+2,0,none⟩=some (.int .i64 0):=by rw [Lib.cell_of_heap A1.out];rfl
 have u0:w1.frozen? ⟨w.heap.size+2,0,none⟩=false:=Lib.frozen_of_heap A1.out _
 go_upto_region 4 with fail
 refine wp_world ?_
 intro W4 hW4
 have nQ:¬ w.heap.size=w.heap.size+1:=by omega
 have X4:Hid (W4.heap[w.heap.size]? =some (.cells #[.int .i64 0,.string ⟨#[]⟩,.int .i64 0,.slice none 0 0,.slice none 0 0,.int .i64 0,.int .i64 0,.bool false,.slice none 0 0,.slice none 0 0] 29 (0,0))):=by
  rw [hW4,Below.heap_setCell _ _ _ _ (by intro e;dsimp only at e;omega),Below.heap_setCell _ _ _ _ (by intro e;dsimp only at e;omega)]
  exact X1.out
 have E4:Hid (W4.heap[w.heap.size+1]? =some (.cells #[.int .i64 E] 30 (0,0))):=by
  rw [hW4,Below.heap_setCell _ _ _ _ (by intro e;dsimp only at e;omega)]
  exact set_heap E1.out _
 have A4:Hid (W4.heap[w.heap.size+2]? =some (.cells #[.int .i64 A] 3 (0,0))):=by
  rw [hW4]
  refine set_heap (cs:=#[.int .i64 0]) ?_ _
  rw [Below.heap_setCell _ _ _ _ (by intro e;dsimp only at e;omega)]
  exact A1.out
 have B4:Hid (Below w.heap.size w W4):=by rw [hW4];exact (B1.out.setCell (by dsimp only;omega) _).setCell (by dsimp only;omega) _
 clear hW4 X1 E1 A1 B1 y0 g0 t0 u0 z1
 obtain ⟨x0,x1,x2,x3,x4,x5,x6,x7,x8,x9⟩:=bx10 X4.out
 obtain ⟨f0,f1,f2,f3,f4,f5,f6,f7,f8,f9⟩:=bz10 X4.out
 have y0:W4.cell? ⟨w.heap.size+1,0,none⟩=some (.int .i64 E):=by rw [Lib.cell_of_heap E4.out];rfl
 have g0:W4.frozen? ⟨w.heap.size+1,0,none⟩=false:=Lib.frozen_of_heap E4.out _
 have t0:W4.cell? ⟨w.heap.size+2,0,none⟩=some (.int .i64 A):=by rw [Lib.cell_of_heap A4.out];rfl
 have u0:W4.frozen? ⟨w.heap.size+2,0,none⟩=false:=Lib.frozen_of_heap A4.out _
 go_region
 all_goals (
  generalize hWF:World.drew _=WF
  have XF:Hid (WF.heap[w.heap.size]? =some (.cells #[.int .i64 0,.string ⟨#[]⟩,.int .i64 0,.slice none 0 0,.slice none 0 0,.int .i64 0,.int .i64 0,.bool false,.slice none 0 0,.slice none 0 0] 29 (0,0))):=by rw [← hWF,drewH];exact (three X4.out E4.out A4.out (by omega) (by omega) (by omega)).1
  have EF:Hid (WF.heap[w.heap.size+1]? =some (.cells #[.int .i64 E] 30 (0,0))):=by rw [← hWF,drewH];exact (three X4.out E4.out A4.out (by omega) (by omega) (by omega)).2.1
  have AF:Hid (WF.heap[w.heap.size+2]? =some (.cells #[.int .i64 A] 3 (0,0))):=by rw [← hWF,drewH];exact (three X4.out E4.out A4.out (by omega) (by omega) (by omega)).2.2
  have BF:Hid (Below w.heap.size w WF):=by rw [← hWF];exact Below.drew (Below.setCell (Below.setCell (bput10 B4.out (Nat.le_refl _) _ _ _ _ _ _ _ _ _ _) (p:=⟨w.heap.size+1,0,none⟩) (by dsimp only;omega) _) (p:=⟨w.heap.size+2,0,none⟩) (by dsimp only;omega) _)
  clear hWF X4 E4 A4 B4 y0 g0 t0 u0 x0 x1 x2 x3 x4 x5 x6 x7 x8 x9 f0 f1 f2 f3 f4 f5 f6 f7 f8 f9
  obtain ⟨x0,x1,x2,x3,x4,x5,x6,x7,x8,x9⟩:=bx10 XF.out
  have y0:WF.cell? ⟨w.heap.size+1,0,none⟩=some (.int .i64 E):=by rw [Lib.cell_of_heap EF.out];rfl
  have t0:WF.cell? ⟨w.heap.size+2,0,none⟩=some (.int .i64 A):=by rw [Lib.cell_of_heap AF.out];rfl
  go_wp2
  refine leaves_cons (f:=16) (args:=#[.pointer (some ⟨w.heap.size,0,none⟩),.pointer (some ⟨w.heap.size+1,0,none⟩),.pointer (some ⟨w.heap.size+2,0,none⟩)]) (by simp) (by simp [go_sem]) ?_
  refine (catch_idle _ _ _ _).mono ?_
  rintro e u' w'' ⟨rfl,rfl,rfl⟩
  simp [Leaves,settle,results,Tryz.results9,go_sem,x0,x1,x2,x3,x4,x5,x6,x7,x8,x9,y0,t0]
  exact BF.out)
theorem flatT_getQ (L:List (Tok Val)) (i j:Nat) (hi:i<L.length) (hj:j<7):(flatT L)[i*7+j]? =(tcells L[i])[j]?:=by
 induction L generalizing i with
 | nil=>simp at hi
 | cons t L ih=>
  have e:flatT (t::L)=tcells t++flatT L:=rfl
  have hl:(tcells t).length=7:=rfl
  rw [e]
  cases i with
  | zero=>rw [List.getElem?_append_left (by omega)];simp
  | succ i=>
   rw [List.getElem?_append_right (by omega),hl,show (i+1)*7+j - 7=i*7+j by omega,ih i (by simpa using hi)]
   simp
theorem own7 {B:Nat} {v:Value} {L:List (Tok Val)} {w:World} (h:OwnT7 B v L w) (h0:0<L.length):∃ g c,v=.slice (some ⟨g,0,none⟩) L.length c∧L.length≤c∧B≤g∧g<w.heap.size∧∀ i (hi:i<L.length),TkC w g (i*7) L[i]:=by
 have h':w.ownsRow B 58 7 v L.length (flatT L):=h
 obtain ⟨hl,⟨e,hn⟩ | ⟨g,cap,cur,rfl,hg1,hg2,hg3,hg4,hg5,hg6⟩⟩:=h
 ·omega
 ·refine ⟨g,cap,rfl,by omega,hg1,(Array.getElem?_eq_some_iff.1 hg2).1,fun i hi=> ?_⟩
  have q:∀ j,j<7→w.cell? ⟨g,i*7+j,none⟩=(tcells L[i])[j]?:=fun j hj=>(h'.cellAt (i*7+j) (by omega)).trans (flatT_getQ L i j hi hj)
  exact ⟨(q 0 (by omega)).trans rfl,(q 1 (by omega)).trans rfl,(q 2 (by omega)).trans rfl,(q 3 (by omega)).trans rfl,(q 4 (by omega)).trans rfl,(q 5 (by omega)).trans rfl,(q 6 (by omega)).trans rfl⟩
def TksAt (W:World) (sz:Nat) (L:List (Tok Val)) (b c:Nat):Prop:=L.length+1≤c∧b<W.heap.size∧(∀ i (h:i<L.length),TkC W b (0+i*7) L[i])∧TkC W b (0+L.length*7) (endT sz)
theorem own_tks {B sz:Nat} {v:Value} {L:List (Tok Val)} {w:World} (h:OwnT7 B v (L++[endT sz]) w):∃ g c,v=.slice (some ⟨g,0,none⟩) (L.length+1) c∧TksAt w sz L g c:=by
 obtain ⟨g,c,e,hc, -,hg,hx⟩:=own7 h (by simp)
 rw [List.length_append] at e hc
 refine ⟨g,c,e,hc,hg,fun i hi=> ?_, ?_⟩
 ·have q:=hx i (by simp;omega)
  rw [List.getElem_append_left hi] at q
  rw [Nat.zero_add]
  exact q
 ·have q:=hx L.length (by simp)
  rw [List.getElem_append_right (Nat.le_refl _)] at q
  simp only [Nat.sub_self,List.getElem_cons_zero] at q
  rw [Nat.zero_add]
  exact q
theorem own_setQ {w:World} {B e size n:Nat} {v:Value} {xs:List Value} {p:Addr} (h:w.ownsRow B e size v n xs) (hp:p.block<B) (u:Value):(w.setCell p u).ownsRow B e size v n xs:=by
 obtain ⟨h1,h2 | ⟨g,cap,cur,hv,hg,hh,hr⟩⟩:=h
 ·exact ⟨h1,Or.inl h2⟩
 ·exact ⟨h1,Or.inr ⟨g,cap,cur,hv,hg,(Below.heap_setCell _ _ _ _ (by intro e;omega)).trans hh,hr⟩⟩
theorem par_fault (s:ByteArray) (L:List (Tok Val)) (w:World) (hs:s.size≤16384) (hL:L.length≤16384) (CT:Hid (∀ W:World,Below w.heap.size w W→Calls Tryz.prog 17 #[.string s] W fun e w'=>∃ v,e=.returned (.tuple #[v,.int .i64 0,.int .i64 0])∧OwnT7 (W.heap.size+1) v L w'∧Below W.heap.size W w')) (er a:Int) (WC:Hid (∀ (W:World) (b c:Nat),TksAt W s.size L b c→Calls Tryz.prog 18 #[.slice (some ⟨b,0,none⟩) (L.length+1) c] W fun e w'=>e=faultE er a∧Below W.heap.size W w')):
  Calls Tryz.prog 9 #[.string s] w fun e w'=>e=.returned (.tuple #[zFm,.int .i64 er,.int .i64 a])∧Below w.heap.size w w':=by
 unfold zFm
 have hmf:∀ (fn:Fn) (first cap:Array Value) (w:World),(Instr.makeFunc fn first cap).run Tryz.prog w=.ok (.func fn first cap) w:=fun _ _ _ _=>rfl
 obtain ⟨i0,hi,hz0,hz1,hz2⟩:=info_parts inT
 go_enter_defers Tryz.func9,Tryz.ntmps9
 go_wp2_with fail
 refine (CT.out _ (by go_grown)).mono ?_
 rintro e w1 ⟨v1,rfl,hO1,hb1⟩
 have z1:w.heap.size+3≤w1.heap.size:=by have:=hb1.size;simp at this;omega
 have X1:Hid (w1.heap[w.heap.size]? =some (.cells #[.int .i64 0,.string ⟨#[]⟩,.int .i64 0,.slice none 0 0,.slice none 0 0,.int .i64 0,.int .i64 0,.bool false,.slice none 0 0,.slice none 0 0] 29 (0,0))):=(hb1.block _ (by simp only [World.size_alloc];omega)).trans ((Below.heap_alloc _ _ _ (by simp only [World.size_alloc];omega)).trans ((Below.heap_alloc _ _ _ (by simp only [World.size_alloc];omega)).trans (new_box w _)))
 have E1:Hid (w1.heap[w.heap.size+1]? =some (.cells #[.int .i64 0] 30 (0,0))):=(hb1.block _ (by simp only [World.size_alloc];omega)).trans ((Below.heap_alloc _ _ _ (by simp only [World.size_alloc];omega)).trans (by have q:=new_box (w.alloc (.cells #[.int .i64 0,.string ⟨#[]⟩,.int .i64 0,.slice none 0 0,.slice none 0 0,.int .i64 0,.int .i64 0,.bool false,.slice none 0 0,.slice none 0 0] 29)) (.cells #[.int .i64 0] 30);simp only [World.size_alloc] at q;exact q))
 have A1:Hid (w1.heap[w.heap.size+2]? =some (.cells #[.int .i64 0] 3 (0,0))):=(hb1.block _ (by simp only [World.size_alloc];omega)).trans (by have q:=new_box ((w.alloc (.cells #[.int .i64 0,.string ⟨#[]⟩,.int .i64 0,.slice none 0 0,.slice none 0 0,.int .i64 0,.int .i64 0,.bool false,.slice none 0 0,.slice none 0 0] 29)).alloc (.cells #[.int .i64 0] 30)) (.cells #[.int .i64 0] 3);simp only [World.size_alloc] at q;exact q)
 have B1:Hid (Below w.heap.size w w1):=((((Below.refl w.heap.size w).alloc (Nat.le_refl _) _).alloc (by simp) _).alloc (by simp;omega) _).trans (hb1.mono (by simp;omega))
 obtain ⟨p1,c1,rfl⟩:=row_form hO1
 have O1:Hid (w1.ownsRow (w.heap.size+3) 58 7 (.slice p1 L.length c1) L.length (flatT L)):=own_monoB hO1 (by first | (simp;done) | (simp;omega))
 clear hb1 CT hO1
 have y0:w1.cell? ⟨w.heap.size+1,0,none⟩=some (.int .i64 0):=by rw [Lib.cell_of_heap E1.out];rfl
 have g0:w1.frozen? ⟨w.heap.size+1,0,none⟩=false:=Lib.frozen_of_heap E1.out _
 have t0:w1.cell? ⟨w.heap.size+2,0,none⟩=some (.int .i64 0):=by rw [Lib.cell_of_heap A1.out];rfl
 have u0:w1.frozen? ⟨w.heap.size+2,0,none⟩=false:=Lib.frozen_of_heap A1.out _
 go_upto_region 5 with fail
 refine wp_world ?_
 intro W5 hW5
 have X5:Hid (W5.heap[w.heap.size]? =some (.cells #[.int .i64 0,.string ⟨#[]⟩,.int .i64 0,.slice none 0 0,.slice none 0 0,.int .i64 0,.int .i64 0,.bool false,.slice none 0 0,.slice none 0 0] 29 (0,0))):=by
  rw [hW5,Below.heap_setCell _ _ _ _ (by intro e;dsimp only at e;omega),Below.heap_setCell _ _ _ _ (by intro e;dsimp only at e;omega)]
  exact X1.out
 have E5:Hid (W5.heap[w.heap.size+1]? =some (.cells #[.int .i64 0] 30 (0,0))):=by
  rw [hW5,Below.heap_setCell _ _ _ _ (by intro e;dsimp only at e;omega)]
  exact set_heap E1.out _
 have A5:Hid (W5.heap[w.heap.size+2]? =some (.cells #[.int .i64 0] 3 (0,0))):=by
  rw [hW5]
  refine set_heap (cs:=#[.int .i64 0]) ?_ _
  rw [Below.heap_setCell _ _ _ _ (by intro e;dsimp only at e;omega)]
  exact A1.out
 have B5:Hid (Below w.heap.size w W5):=by rw [hW5];exact (B1.out.setCell (by dsimp only;omega) _).setCell (by dsimp only;omega) _
 have O5:Hid (W5.ownsRow (w.heap.size+3) 58 7 (.slice p1 L.length c1) L.length (flatT L)):=by
  rw [hW5]
  exact own_setQ (own_setQ O1.out (by dsimp only;omega) _) (by dsimp only;omega) _
 have z5:w.heap.size+3≤W5.heap.size:=by rw [hW5];simpa using z1
 clear hW5 X1 E1 A1 B1 O1 y0 g0 t0 u0 z1
 have hsl:s.size≤9223372036854775807:=by omega
 go_wp2_with (at_builtin;refine wpList_append_own _ rfl _ _ 54 rfl (w.heap.size+3) 58 i0 (.agg #[.int .i64 0,.int .i64 0,.string ⟨#[]⟩,.int .i64 0,.int .i64 0,.int .i64 0,.string ⟨#[]⟩]) 7 72 Tryz.underlying54 hi hz0 hz1 hz2 rfl (by decide) _ _ _ rfl (World.ownsRow.alloc O5.out _) ⟨W5.heap.size,0,none⟩ 1 1 (tcells (endT s.size)) rfl rfl ?cc1 ?cc2 ?cc3 ?cc4 ?cc5 ?_)
 case cc1=>(intro j u hj;rw [Addr.add_lit];simp only [tcells,endT] at hj;(rcases j with _ | _ | _ | _ | _ | _ | _ | j)<;>simp at hj<;>subst hj<;>simp (maxDischargeDepth:=12) [go_sem]<;>rfl)
 case cc2=>(intro u hu;simp only [tcells,endT] at hu;simp at hu;rcases hu with rfl | rfl | rfl | rfl | rfl | rfl | rfl<;>rfl)
 case cc3=>unfold maxLen;omega
 case cc4=>omega
 case cc5=>first | omega | (simp;omega)
 intro v6 w6 h2 h3 _
 have O6:OwnT7 (w.heap.size+3) v6 (L++[endT s.size]) w6:=by
  show w6.ownsRow _ _ _ _ _ _
  rw [List.length_append,← flatT_more]
  exact h2
 have hrow:∀ k,k<w.heap.size+3→¬ (Value.slice p1 L.length c1).ownBlock=some k:=fun k hk e=>by have:=(World.ownsRow.lt O5.out k e).1;omega
 have X6:Hid (w6.heap[w.heap.size]? =some (.cells #[.int .i64 0,.string ⟨#[]⟩,.int .i64 0,.slice none 0 0,.slice none 0 0,.int .i64 0,.int .i64 0,.bool false,.slice none 0 0,.slice none 0 0] 29 (0,0))):=((h3.block _ (by simp;omega) (fun e=>hrow _ (by omega) e.symm)).trans (Below.heap_alloc _ _ _ (by omega))).trans X5.out
 have E6:Hid (w6.heap[w.heap.size+1]? =some (.cells #[.int .i64 0] 30 (0,0))):=((h3.block _ (by simp;omega) (fun e=>hrow _ (by omega) e.symm)).trans (Below.heap_alloc _ _ _ (by omega))).trans E5.out
 have A6:Hid (w6.heap[w.heap.size+2]? =some (.cells #[.int .i64 0] 3 (0,0))):=((h3.block _ (by simp;omega) (fun e=>hrow _ (by omega) e.symm)).trans (Below.heap_alloc _ _ _ (by omega))).trans A5.out
 have B6:Hid (Below w.heap.size w w6):=Below.grown (B5.out.alloc (by omega) _) h3 (by simp;omega) (fun q hq=>by have:=(World.ownsRow.lt O5.out q hq).1;omega)
 have z6:w.heap.size+3≤w6.heap.size:=by have:=h3.size;simp at this;omega
 obtain ⟨g6,c6,rfl,hT6⟩:=own_tks O6
 have T6:Hid (TksAt w6 s.size L g6 c6):=hT6
 clear h2 h3 O6 hrow O5 B5 X5 E5 A5 z5 hT6 hi hz0 hz1 hz2
 go_wp2_with fail
 refine (WC.out w6 g6 c6 T6.out).mono ?_
 rintro e w7 ⟨rfl,hb7⟩
 have X7:Hid (w7.heap[w.heap.size]? =_):=(hb7.block _ (by omega)).trans X6.out
 have E7:Hid (w7.heap[w.heap.size+1]? =_):=(hb7.block _ (by omega)).trans E6.out
 have A7:Hid (w7.heap[w.heap.size+2]? =_):=(hb7.block _ (by omega)).trans A6.out
 have B7:Hid (Below w.heap.size w w7):=B6.out.trans (hb7.mono (by omega))
 clear hb7 B6 X6 E6 A6 T6 WC
 refine leaves_cons (f:=16) (args:=#[.pointer (some ⟨w.heap.size,0,none⟩),.pointer (some ⟨w.heap.size+1,0,none⟩),.pointer (some ⟨w.heap.size+2,0,none⟩)]) (by simp) (by simp [go_sem]) ?_
 refine (catch_panicking w.heap.size (w.heap.size+1) (w.heap.size+2) er a 0 0 [] [] w7 _ _ _ _ _ _ _ _ _ _ X7.out E7.out A7.out (by omega) (by omega) (by omega)).mono ?_
 rintro e u' WF ⟨rfl,rfl,hF8,XF,EF,AF⟩
 obtain ⟨x0,x1,x2,x3,x4,x5,x6,x7,x8,x9⟩:=bx10 XF
 have y0:WF.cell? ⟨w.heap.size+1,0,none⟩=_:=(Lib.cell_of_heap EF _).trans rfl
 have t0:WF.cell? ⟨w.heap.size+2,0,none⟩=_:=(Lib.cell_of_heap AF _).trans rfl
 simp [Leaves,settle,results,Tryz.results9,go_sem,x0,x1,x2,x3,x4,x5,x6,x7,x8,x9,y0,t0]
 exact B7.out.trans (hF8.below B7.out.size (fun k e=>by omega))
theorem par_unfit (s:ByteArray) (L:List (Tok Val)) (w:World) (hs:s.size≤16384) (hL:L.length≤16384) (CT:Hid (∀ W:World,Below w.heap.size w W→Calls Tryz.prog 17 #[.string s] W fun e w'=>∃ v,e=.returned (.tuple #[v,.int .i64 0,.int .i64 0])∧OwnT7 (W.heap.size+1) v L w'∧Below W.heap.size W w')) (fk fop flo fhi:Int) (fnm:ByteArray) (fpn:Bool) (fvs:List ByteArray) (fts:List Tm) (fss:List Fm) (frs:List Rx) (WC:Hid (∀ (W:World) (b c:Nat),TksAt W s.size L b c→Calls Tryz.prog 18 #[.slice (some ⟨b,0,none⟩) (L.length+1) c] W fun e w'=>∃ v,e=.returned v∧FmV W (Fm.mk fk fnm fop fvs fts flo fhi fpn fss frs) v w'∧Below W.heap.size W w')) (E:Int) (CK:Hid (∀ (q:FQ) (W:World),QAt W ((Fm.mk fk fnm fop fvs fts flo fhi fpn fss frs),q)→Calls Tryz.prog 19 #[.agg #[.int .i64 fk,.string fnm,.int .i64 fop,q.v,q.t,.int .i64 flo,.int .i64 fhi,.bool fpn,q.s,q.r]] W fun r w'=>r=.returned (.int .i64 E)∧Below W.heap.size W w')) (hE:¬ E=0):
  Calls Tryz.prog 9 #[.string s] w fun e w'=>e=.returned (.tuple #[zFm,.int .i64 E,.int .i64 0])∧Below w.heap.size w w':=by
 unfold zFm
 have hmf:∀ (fn:Fn) (first cap:Array Value) (w:World),(Instr.makeFunc fn first cap).run Tryz.prog w=.ok (.func fn first cap) w:=fun _ _ _ _=>rfl
 obtain ⟨i0,hi,hz0,hz1,hz2⟩:=info_parts inT
 go_enter_defers Tryz.func9,Tryz.ntmps9
 go_wp2_with fail
 refine (CT.out _ (by go_grown)).mono ?_
 rintro e w1 ⟨v1,rfl,hO1,hb1⟩
 have z1:w.heap.size+3≤w1.heap.size:=by have:=hb1.size;simp at this;omega
 have X1:Hid (w1.heap[w.heap.size]? =some (.cells #[.int .i64 0,.string ⟨#[]⟩,.int .i64 0,.slice none 0 0,.slice none 0 0,.int .i64 0,.int .i64 0,.bool false,.slice none 0 0,.slice none 0 0] 29 (0,0))):=(hb1.block _ (by simp only [World.size_alloc];omega)).trans ((Below.heap_alloc _ _ _ (by simp only [World.size_alloc];omega)).trans ((Below.heap_alloc _ _ _ (by simp only [World.size_alloc];omega)).trans (new_box w _)))
 have E1:Hid (w1.heap[w.heap.size+1]? =some (.cells #[.int .i64 0] 30 (0,0))):=(hb1.block _ (by simp only [World.size_alloc];omega)).trans ((Below.heap_alloc _ _ _ (by simp only [World.size_alloc];omega)).trans (by have q:=new_box (w.alloc (.cells #[.int .i64 0,.string ⟨#[]⟩,.int .i64 0,.slice none 0 0,.slice none 0 0,.int .i64 0,.int .i64 0,.bool false,.slice none 0 0,.slice none 0 0] 29)) (.cells #[.int .i64 0] 30);simp only [World.size_alloc] at q;exact q))
 have A1:Hid (w1.heap[w.heap.size+2]? =some (.cells #[.int .i64 0] 3 (0,0))):=(hb1.block _ (by simp only [World.size_alloc];omega)).trans (by have q:=new_box ((w.alloc (.cells #[.int .i64 0,.string ⟨#[]⟩,.int .i64 0,.slice none 0 0,.slice none 0 0,.int .i64 0,.int .i64 0,.bool false,.slice none 0 0,.slice none 0 0] 29)).alloc (.cells #[.int .i64 0] 30)) (.cells #[.int .i64 0] 3);simp only [World.size_alloc] at q;exact q)
 have B1:Hid (Below w.heap.size w w1):=((((Below.refl w.heap.size w).alloc (Nat.le_refl _) _).alloc (by simp) _).alloc (by simp;omega) _).trans (hb1.mono (by simp;omega))
 obtain ⟨p1,c1,rfl⟩:=row_form hO1
 have O1:Hid (w1.ownsRow (w.heap.size+3) 58 7 (.slice p1 L.length c1) L.length (flatT L)):=own_monoB hO1 (by first | (simp;done) | (simp;omega))
 clear hb1 CT hO1
 have y0:w1.cell? ⟨w.heap.size+1,0,none⟩=some (.int .i64 0):=by rw [Lib.cell_of_heap E1.out];rfl
 have g0:w1.frozen? ⟨w.heap.size+1,0,none⟩=false:=Lib.frozen_of_heap E1.out _
 have t0:w1.cell? ⟨w.heap.size+2,0,none⟩=some (.int .i64 0):=by rw [Lib.cell_of_heap A1.out];rfl
 have u0:w1.frozen? ⟨w.heap.size+2,0,none⟩=false:=Lib.frozen_of_heap A1.out _
 go_upto_region 5 with fail
 refine wp_world ?_
 intro W5 hW5
 have X5:Hid (W5.heap[w.heap.size]? =some (.cells #[.int .i64 0,.string ⟨#[]⟩,.int .i64 0,.slice none 0 0,.slice none 0 0,.int .i64 0,.int .i64 0,.bool false,.slice none 0 0,.slice none 0 0] 29 (0,0))):=by
  rw [hW5,Below.heap_setCell _ _ _ _ (by intro e;dsimp only at e;omega),Below.heap_setCell _ _ _ _ (by intro e;dsimp only at e;omega)]
  exact X1.out
 have E5:Hid (W5.heap[w.heap.size+1]? =some (.cells #[.int .i64 0] 30 (0,0))):=by
  rw [hW5,Below.heap_setCell _ _ _ _ (by intro e;dsimp only at e;omega)]
  exact set_heap E1.out _
 have A5:Hid (W5.heap[w.heap.size+2]? =some (.cells #[.int .i64 0] 3 (0,0))):=by
  rw [hW5]
  refine set_heap (cs:=#[.int .i64 0]) ?_ _
  rw [Below.heap_setCell _ _ _ _ (by intro e;dsimp only at e;omega)]
  exact A1.out
 have B5:Hid (Below w.heap.size w W5):=by rw [hW5];exact (B1.out.setCell (by dsimp only;omega) _).setCell (by dsimp only;omega) _
 have O5:Hid (W5.ownsRow (w.heap.size+3) 58 7 (.slice p1 L.length c1) L.length (flatT L)):=by
  rw [hW5]
  exact own_setQ (own_setQ O1.out (by dsimp only;omega) _) (by dsimp only;omega) _
 have z5:w.heap.size+3≤W5.heap.size:=by rw [hW5];simpa using z1
 clear hW5 X1 E1 A1 B1 O1 y0 g0 t0 u0 z1
 have hsl:s.size≤9223372036854775807:=by omega
 go_wp2_with (at_builtin;refine wpList_append_own _ rfl _ _ 54 rfl (w.heap.size+3) 58 i0 (.agg #[.int .i64 0,.int .i64 0,.string ⟨#[]⟩,.int .i64 0,.int .i64 0,.int .i64 0,.string ⟨#[]⟩]) 7 72 Tryz.underlying54 hi hz0 hz1 hz2 rfl (by decide) _ _ _ rfl (World.ownsRow.alloc O5.out _) ⟨W5.heap.size,0,none⟩ 1 1 (tcells (endT s.size)) rfl rfl ?cc1 ?cc2 ?cc3 ?cc4 ?cc5 ?_)
 case cc1=>(intro j u hj;rw [Addr.add_lit];simp only [tcells,endT] at hj;(rcases j with _ | _ | _ | _ | _ | _ | _ | j)<;>simp at hj<;>subst hj<;>simp (maxDischargeDepth:=12) [go_sem]<;>rfl)
 case cc2=>(intro u hu;simp only [tcells,endT] at hu;simp at hu;rcases hu with rfl | rfl | rfl | rfl | rfl | rfl | rfl<;>rfl)
 case cc3=>unfold maxLen;omega
 case cc4=>omega
 case cc5=>first | omega | (simp;omega)
 intro v6 w6 h2 h3 _
 have hE':(E != 0)=true:=by simpa using hE
 have O6:OwnT7 (w.heap.size+3) v6 (L++[endT s.size]) w6:=by
  show w6.ownsRow _ _ _ _ _ _
  rw [List.length_append,← flatT_more]
  exact h2
 have hrow:∀ k,k<w.heap.size+3→¬ (Value.slice p1 L.length c1).ownBlock=some k:=fun k hk e=>by have:=(World.ownsRow.lt O5.out k e).1;omega
 have X6:Hid (w6.heap[w.heap.size]? =some (.cells #[.int .i64 0,.string ⟨#[]⟩,.int .i64 0,.slice none 0 0,.slice none 0 0,.int .i64 0,.int .i64 0,.bool false,.slice none 0 0,.slice none 0 0] 29 (0,0))):=((h3.block _ (by simp;omega) (fun e=>hrow _ (by omega) e.symm)).trans (Below.heap_alloc _ _ _ (by omega))).trans X5.out
 have E6:Hid (w6.heap[w.heap.size+1]? =some (.cells #[.int .i64 0] 30 (0,0))):=((h3.block _ (by simp;omega) (fun e=>hrow _ (by omega) e.symm)).trans (Below.heap_alloc _ _ _ (by omega))).trans E5.out
 have A6:Hid (w6.heap[w.heap.size+2]? =some (.cells #[.int .i64 0] 3 (0,0))):=((h3.block _ (by simp;omega) (fun e=>hrow _ (by omega) e.symm)).trans (Below.heap_alloc _ _ _ (by omega))).trans A5.out
 have B6:Hid (Below w.heap.size w w6):=Below.grown (B5.out.alloc (by omega) _) h3 (by simp;omega) (fun q hq=>by have:=(World.ownsRow.lt O5.out q hq).1;omega)
 have z6:w.heap.size+3≤w6.heap.size:=by have:=h3.size;simp at this;omega
 obtain ⟨g6,c6,rfl,hT6⟩:=own_tks O6
 have T6:Hid (TksAt w6 s.size L g6 c6):=hT6
 clear h2 h3 O6 hrow O5 B5 X5 E5 A5 z5 hT6 hi hz0 hz1 hz2
 go_wp2_with fail
 refine (WC.out w6 g6 c6 T6.out).mono ?_
 rintro e w7 ⟨v7,rfl,⟨⟨uv,ut,us,ur⟩,rfl,hQ7⟩,hb7⟩
 obtain ⟨k1,k2,k3,k4⟩:=hQ7.at
 dsimp only [Fm.k,Fm.nm,Fm.op,Fm.lo,Fm.hi,Fm.opn,Fm.vars,Fm.terms,Fm.subs,Fm.rgx] at k1 k2 k3 k4
 obtain ⟨-,qv,dv,rfl, -⟩:=k1
 obtain ⟨qt,dt,rfl, -⟩:=k2.form
 obtain ⟨qs,ds,rfl, -⟩:=k3.form
 obtain ⟨qr,dr,rfl, -⟩:=k4.form
 have HQ:Hid (QOwn (fun q=>w6.heap.size≤q) w7 (((Fm.mk fk fnm fop fvs fts flo fhi fpn fss frs),(⟨.slice qv fvs.length dv,.slice qt fts.length dt,.slice qs fss.length ds,.slice qr frs.length dr⟩:FQ)):Fm×FQ)):=hQ7
 clear k2 k3 k4 hQ7
 dsimp only [Fm.k,Fm.nm,Fm.op,Fm.lo,Fm.hi,Fm.opn]
 have X7:Hid (w7.heap[w.heap.size]? =_):=(hb7.block _ (by omega)).trans X6.out
 have E7:Hid (w7.heap[w.heap.size+1]? =_):=(hb7.block _ (by omega)).trans E6.out
 have A7:Hid (w7.heap[w.heap.size+2]? =_):=(hb7.block _ (by omega)).trans A6.out
 have B7:Hid (Below w.heap.size w w7):=B6.out.trans (hb7.mono (by omega))
 have z7:w6.heap.size≤w7.heap.size:=hb7.size
 clear hb7 B6 X6 E6 A6 T6 WC
 obtain ⟨x0,x1,x2,x3,x4,x5,x6,x7,x8,x9⟩:=bx10 X7.out
 obtain ⟨f0,f1,f2,f3,f4,f5,f6,f7,f8,f9⟩:=bz10 X7.out
 have y0:w7.cell? ⟨w.heap.size+1,0,none⟩=some (.int .i64 0):=by rw [Lib.cell_of_heap E7.out];rfl
 have g0:w7.frozen? ⟨w.heap.size+1,0,none⟩=false:=Lib.frozen_of_heap E7.out _
 have t0:w7.cell? ⟨w.heap.size+2,0,none⟩=some (.int .i64 0):=by rw [Lib.cell_of_heap A7.out];rfl
 have u0:w7.frozen? ⟨w.heap.size+2,0,none⟩=false:=Lib.frozen_of_heap A7.out _
 go_upto_region 6 with fail
 refine wp_world ?_
 intro W8 hW8
 have F8:Fr (fun k=>k=w.heap.size) w7 W8:=by rw [hW8];exact frp10 (P:=fun k=>k=w.heap.size) (Fr.refl _ w7) (Or.inl rfl) _ _ _ _ _ _ _ _ _ _
 have X8:Hid (W8.heap[w.heap.size]? =some (.cells #[.int .i64 fk,.string fnm,.int .i64 fop,.slice qv fvs.length dv,.slice qt fts.length dt,.int .i64 flo,.int .i64 fhi,.bool fpn,.slice qs fss.length ds,.slice qr frs.length dr] 29 (0,0))):=by rw [hW8];exact put10 X7.out
 have E8:Hid (W8.heap[w.heap.size+1]? =_):=F8.heap E7.out (fun e=>by omega)
 have A8:Hid (W8.heap[w.heap.size+2]? =_):=F8.heap A7.out (fun e=>by omega)
 have B8:Hid (Below w.heap.size w W8):=B7.out.trans (F8.below B7.out.size (fun k e=>by omega))
 have Q8:Hid (QOwn (fun q=>w6.heap.size≤q) W8 (((Fm.mk fk fnm fop fvs fts flo fhi fpn fss frs),(⟨.slice qv fvs.length dv,.slice qt fts.length dt,.slice qs fss.length ds,.slice qr frs.length dr⟩:FQ)):Fm×FQ)):=HQ.out.keep (fun q hq hlt=>F8.block q hlt (fun e=>by omega))
 have z8:w6.heap.size≤W8.heap.size:=Nat.le_trans z7 F8.size
 have CK8:Hid (Calls Tryz.prog 19 #[.agg #[.int .i64 fk,.string fnm,.int .i64 fop,.slice qv fvs.length dv,.slice qt fts.length dt,.int .i64 flo,.int .i64 fhi,.bool fpn,.slice qs fss.length ds,.slice qr frs.length dr]] W8 fun r w'=>r=.returned (.int .i64 E)∧Below W8.heap.size W8 w'):=CK.out ⟨.slice qv fvs.length dv,.slice qt fts.length dt,.slice qs fss.length ds,.slice qr frs.length dr⟩ W8 Q8.out.at
 clear hW8 F8 x0 x1 x2 x3 x4 x5 x6 x7 x8 x9 f0 f1 f2 f3 f4 f5 f6 f7 f8 f9 y0 g0 t0 u0 X7 E7 A7 B7 HQ CK z7
 obtain ⟨x0,x1,x2,x3,x4,x5,x6,x7,x8,x9⟩:=bx10 X8.out
 go_wp2_with fail
 refine CK8.out.mono ?_
 rintro e w9 ⟨rfl,hb9⟩
 have X9:Hid (w9.heap[w.heap.size]? =_):=(hb9.block _ (by omega)).trans X8.out
 have E9:Hid (w9.heap[w.heap.size+1]? =_):=(hb9.block _ (by omega)).trans E8.out
 have A9:Hid (w9.heap[w.heap.size+2]? =_):=(hb9.block _ (by omega)).trans A8.out
 have B9:Hid (Below w.heap.size w w9):=B8.out.trans (hb9.mono (by omega))
 have Q9:Hid (QOwn (fun q=>w6.heap.size≤q) w9 (((Fm.mk fk fnm fop fvs fts flo fhi fpn fss frs),(⟨.slice qv fvs.length dv,.slice qt fts.length dt,.slice qs fss.length ds,.slice qr frs.length dr⟩:FQ)):Fm×FQ)):=Q8.out.keep (fun q hq hlt=>hb9.block q hlt)
 have z9:w6.heap.size≤w9.heap.size:=Nat.le_trans z8 hb9.size
 clear hb9 X8 E8 A8 B8 Q8 CK8 z8 x0 x1 x2 x3 x4 x5 x6 x7 x8 x9
 obtain ⟨x0,x1,x2,x3,x4,x5,x6,x7,x8,x9⟩:=bx10 X9.out
 obtain ⟨f0,f1,f2,f3,f4,f5,f6,f7,f8,f9⟩:=bz10 X9.out
 have y0:w9.cell? ⟨w.heap.size+1,0,none⟩=some (.int .i64 0):=by rw [Lib.cell_of_heap E9.out];rfl
 have g0:w9.frozen? ⟨w.heap.size+1,0,none⟩=false:=Lib.frozen_of_heap E9.out _
 have t0:w9.cell? ⟨w.heap.size+2,0,none⟩=some (.int .i64 0):=by rw [Lib.cell_of_heap A9.out];rfl
 have u0:w9.frozen? ⟨w.heap.size+2,0,none⟩=false:=Lib.frozen_of_heap A9.out _
 have T9:=three (u:=.int .i64 E) (v:=.int .i64 0) (v0:=.int .i64 0) (v1:=.string ⟨#[]⟩) (v2:=.int .i64 0) (v3:=.slice none 0 0) (v4:=.slice none 0 0) (v5:=.int .i64 0) (v6:=.int .i64 0) (v7:=.bool false) (v8:=.slice none 0 0) (v9:=.slice none 0 0) X9.out E9.out A9.out (by omega) (by omega) (by omega)
 have BF9:=(Below.setCell (Below.setCell (bput10 B9.out (Nat.le_refl _) (.int .i64 0) (.string ⟨#[]⟩) (.int .i64 0) (.slice none 0 0) (.slice none 0 0) (.int .i64 0) (.int .i64 0) (.bool false) (.slice none 0 0) (.slice none 0 0)) (p:=⟨w.heap.size+1,0,none⟩) (by dsimp only;omega) (.int .i64 E)) (p:=⟨w.heap.size+2,0,none⟩) (by dsimp only;omega) (.int .i64 0))
 clear B9 X9 E9 A9 Q9
 go_wp2
 generalize World.setCell _ _ _=WF at T9 BF9 ⊢
 obtain ⟨XF,EF,AF⟩:=T9
 clear x0 x1 x2 x3 x4 x5 x6 x7 x8 x9 f0 f1 f2 f3 f4 f5 f6 f7 f8 f9 y0 g0 t0 u0
 refine leaves_cons (f:=16) (args:=#[.pointer (some ⟨w.heap.size,0,none⟩),.pointer (some ⟨w.heap.size+1,0,none⟩),.pointer (some ⟨w.heap.size+2,0,none⟩)]) (by simp) (by simp [go_sem]) ?_
 refine (catch_idle _ _ _ _).mono ?_
 rintro e u' w'' ⟨rfl,rfl,hw⟩
 replace hw:=hw.symm
 subst hw
 obtain ⟨x0,x1,x2,x3,x4,x5,x6,x7,x8,x9⟩:=bx10 XF
 have y0:WF.cell? ⟨w.heap.size+1,0,none⟩=_:=(Lib.cell_of_heap EF _).trans rfl
 have t0:WF.cell? ⟨w.heap.size+2,0,none⟩=_:=(Lib.cell_of_heap AF _).trans rfl
 simp [Leaves,settle,results,Tryz.results9,go_sem,x0,x1,x2,x3,x4,x5,x6,x7,x8,x9,y0,t0]
 exact BF9
theorem par_ok (s:ByteArray) (L:List (Tok Val)) (w:World) (hs:s.size≤16384) (hL:L.length≤16384) (CT:Hid (∀ W:World,Below w.heap.size w W→Calls Tryz.prog 17 #[.string s] W fun e w'=>∃ v,e=.returned (.tuple #[v,.int .i64 0,.int .i64 0])∧OwnT7 (W.heap.size+1) v L w'∧Below W.heap.size W w')) (fk fop flo fhi:Int) (fnm:ByteArray) (fpn:Bool) (fvs:List ByteArray) (fts:List Tm) (fss:List Fm) (frs:List Rx) (WC:Hid (∀ (W:World) (b c:Nat),TksAt W s.size L b c→Calls Tryz.prog 18 #[.slice (some ⟨b,0,none⟩) (L.length+1) c] W fun e w'=>∃ v,e=.returned v∧FmV W (Fm.mk fk fnm fop fvs fts flo fhi fpn fss frs) v w'∧Below W.heap.size W w')) (CK:Hid (∀ (q:FQ) (W:World),QAt W ((Fm.mk fk fnm fop fvs fts flo fhi fpn fss frs),q)→Calls Tryz.prog 19 #[.agg #[.int .i64 fk,.string fnm,.int .i64 fop,q.v,q.t,.int .i64 flo,.int .i64 fhi,.bool fpn,q.s,q.r]] W fun r w'=>r=.returned (.int .i64 0)∧Below W.heap.size W w')):
  Calls Tryz.prog 9 #[.string s] w fun e w'=>∃ v,e=.returned (.tuple #[v,.int .i64 0,.int .i64 0])∧FmV w (Fm.mk fk fnm fop fvs fts flo fhi fpn fss frs) v w'∧Below w.heap.size w w':=by
 have hmf:∀ (fn:Fn) (first cap:Array Value) (w:World),(Instr.makeFunc fn first cap).run Tryz.prog w=.ok (.func fn first cap) w:=fun _ _ _ _=>rfl
 obtain ⟨i0,hi,hz0,hz1,hz2⟩:=info_parts inT
 go_enter_defers Tryz.func9,Tryz.ntmps9
 go_wp2_with fail
 refine (CT.out _ (by go_grown)).mono ?_
 rintro e w1 ⟨v1,rfl,hO1,hb1⟩
 have z1:w.heap.size+3≤w1.heap.size:=by have:=hb1.size;simp at this;omega
 have X1:Hid (w1.heap[w.heap.size]? =some (.cells #[.int .i64 0,.string ⟨#[]⟩,.int .i64 0,.slice none 0 0,.slice none 0 0,.int .i64 0,.int .i64 0,.bool false,.slice none 0 0,.slice none 0 0] 29 (0,0))):=(hb1.block _ (by simp only [World.size_alloc];omega)).trans ((Below.heap_alloc _ _ _ (by simp only [World.size_alloc];omega)).trans ((Below.heap_alloc _ _ _ (by simp only [World.size_alloc];omega)).trans (new_box w _)))
 have E1:Hid (w1.heap[w.heap.size+1]? =some (.cells #[.int .i64 0] 30 (0,0))):=(hb1.block _ (by simp only [World.size_alloc];omega)).trans ((Below.heap_alloc _ _ _ (by simp only [World.size_alloc];omega)).trans (by have q:=new_box (w.alloc (.cells #[.int .i64 0,.string ⟨#[]⟩,.int .i64 0,.slice none 0 0,.slice none 0 0,.int .i64 0,.int .i64 0,.bool false,.slice none 0 0,.slice none 0 0] 29)) (.cells #[.int .i64 0] 30);simp only [World.size_alloc] at q;exact q))
 have A1:Hid (w1.heap[w.heap.size+2]? =some (.cells #[.int .i64 0] 3 (0,0))):=(hb1.block _ (by simp only [World.size_alloc];omega)).trans (by have q:=new_box ((w.alloc (.cells #[.int .i64 0,.string ⟨#[]⟩,.int .i64 0,.slice none 0 0,.slice none 0 0,.int .i64 0,.int .i64 0,.bool false,.slice none 0 0,.slice none 0 0] 29)).alloc (.cells #[.int .i64 0] 30)) (.cells #[.int .i64 0] 3);simp only [World.size_alloc] at q;exact q)
 have B1:Hid (Below w.heap.size w w1):=((((Below.refl w.heap.size w).alloc (Nat.le_refl _) _).alloc (by simp) _).alloc (by simp;omega) _).trans (hb1.mono (by simp;omega))
 obtain ⟨p1,c1,rfl⟩:=row_form hO1
 have O1:Hid (w1.ownsRow (w.heap.size+3) 58 7 (.slice p1 L.length c1) L.length (flatT L)):=own_monoB hO1 (by first | (simp;done) | (simp;omega))
 clear hb1 CT hO1
 have y0:w1.cell? ⟨w.heap.size+1,0,none⟩=some (.int .i64 0):=by rw [Lib.cell_of_heap E1.out];rfl
 have g0:w1.frozen? ⟨w.heap.size+1,0,none⟩=false:=Lib.frozen_of_heap E1.out _
 have t0:w1.cell? ⟨w.heap.size+2,0,none⟩=some (.int .i64 0):=by rw [Lib.cell_of_heap A1.out];rfl
 have u0:w1.frozen? ⟨w.heap.size+2,0,none⟩=false:=Lib.frozen_of_heap A1.out _
 go_upto_region 5 with fail
 refine wp_world ?_
 intro W5 hW5
 have X5:Hid (W5.heap[w.heap.size]? =some (.cells #[.int .i64 0,.string ⟨#[]⟩,.int .i64 0,.slice none 0 0,.slice none 0 0,.int .i64 0,.int .i64 0,.bool false,.slice none 0 0,.slice none 0 0] 29 (0,0))):=by
  rw [hW5,Below.heap_setCell _ _ _ _ (by intro e;dsimp only at e;omega),Below.heap_setCell _ _ _ _ (by intro e;dsimp only at e;omega)]
  exact X1.out
 have E5:Hid (W5.heap[w.heap.size+1]? =some (.cells #[.int .i64 0] 30 (0,0))):=by
  rw [hW5,Below.heap_setCell _ _ _ _ (by intro e;dsimp only at e;omega)]
  exact set_heap E1.out _
 have A5:Hid (W5.heap[w.heap.size+2]? =some (.cells #[.int .i64 0] 3 (0,0))):=by
  rw [hW5]
  refine set_heap (cs:=#[.int .i64 0]) ?_ _
  rw [Below.heap_setCell _ _ _ _ (by intro e;dsimp only at e;omega)]
  exact A1.out
 have B5:Hid (Below w.heap.size w W5):=by rw [hW5];exact (B1.out.setCell (by dsimp only;omega) _).setCell (by dsimp only;omega) _
 have O5:Hid (W5.ownsRow (w.heap.size+3) 58 7 (.slice p1 L.length c1) L.length (flatT L)):=by
  rw [hW5]
  exact own_setQ (own_setQ O1.out (by dsimp only;omega) _) (by dsimp only;omega) _
 have z5:w.heap.size+3≤W5.heap.size:=by rw [hW5];simpa using z1
 clear hW5 X1 E1 A1 B1 O1 y0 g0 t0 u0 z1
 have hsl:s.size≤9223372036854775807:=by omega
 go_wp2_with (at_builtin;refine wpList_append_own _ rfl _ _ 54 rfl (w.heap.size+3) 58 i0 (.agg #[.int .i64 0,.int .i64 0,.string ⟨#[]⟩,.int .i64 0,.int .i64 0,.int .i64 0,.string ⟨#[]⟩]) 7 72 Tryz.underlying54 hi hz0 hz1 hz2 rfl (by decide) _ _ _ rfl (World.ownsRow.alloc O5.out _) ⟨W5.heap.size,0,none⟩ 1 1 (tcells (endT s.size)) rfl rfl ?cc1 ?cc2 ?cc3 ?cc4 ?cc5 ?_)
 case cc1=>(intro j u hj;rw [Addr.add_lit];simp only [tcells,endT] at hj;(rcases j with _ | _ | _ | _ | _ | _ | _ | j)<;>simp at hj<;>subst hj<;>simp (maxDischargeDepth:=12) [go_sem]<;>rfl)
 case cc2=>(intro u hu;simp only [tcells,endT] at hu;simp at hu;rcases hu with rfl | rfl | rfl | rfl | rfl | rfl | rfl<;>rfl)
 case cc3=>unfold maxLen;omega
 case cc4=>omega
 case cc5=>first | omega | (simp;omega)
 intro v6 w6 h2 h3 _
 have O6:OwnT7 (w.heap.size+3) v6 (L++[endT s.size]) w6:=by
  show w6.ownsRow _ _ _ _ _ _
  rw [List.length_append,← flatT_more]
  exact h2
 have hrow:∀ k,k<w.heap.size+3→¬ (Value.slice p1 L.length c1).ownBlock=some k:=fun k hk e=>by have:=(World.ownsRow.lt O5.out k e).1;omega
 have X6:Hid (w6.heap[w.heap.size]? =some (.cells #[.int .i64 0,.string ⟨#[]⟩,.int .i64 0,.slice none 0 0,.slice none 0 0,.int .i64 0,.int .i64 0,.bool false,.slice none 0 0,.slice none 0 0] 29 (0,0))):=((h3.block _ (by simp;omega) (fun e=>hrow _ (by omega) e.symm)).trans (Below.heap_alloc _ _ _ (by omega))).trans X5.out
 have E6:Hid (w6.heap[w.heap.size+1]? =some (.cells #[.int .i64 0] 30 (0,0))):=((h3.block _ (by simp;omega) (fun e=>hrow _ (by omega) e.symm)).trans (Below.heap_alloc _ _ _ (by omega))).trans E5.out
 have A6:Hid (w6.heap[w.heap.size+2]? =some (.cells #[.int .i64 0] 3 (0,0))):=((h3.block _ (by simp;omega) (fun e=>hrow _ (by omega) e.symm)).trans (Below.heap_alloc _ _ _ (by omega))).trans A5.out
 have B6:Hid (Below w.heap.size w w6):=Below.grown (B5.out.alloc (by omega) _) h3 (by simp;omega) (fun q hq=>by have:=(World.ownsRow.lt O5.out q hq).1;omega)
 have z6:w.heap.size+3≤w6.heap.size:=by have:=h3.size;simp at this;omega
 obtain ⟨g6,c6,rfl,hT6⟩:=own_tks O6
 have T6:Hid (TksAt w6 s.size L g6 c6):=hT6
 clear h2 h3 O6 hrow O5 B5 X5 E5 A5 z5 hT6 hi hz0 hz1 hz2
 go_wp2_with fail
 refine (WC.out w6 g6 c6 T6.out).mono ?_
 rintro e w7 ⟨v7,rfl,⟨⟨uv,ut,us,ur⟩,rfl,hQ7⟩,hb7⟩
 obtain ⟨k1,k2,k3,k4⟩:=hQ7.at
 dsimp only [Fm.k,Fm.nm,Fm.op,Fm.lo,Fm.hi,Fm.opn,Fm.vars,Fm.terms,Fm.subs,Fm.rgx] at k1 k2 k3 k4
 obtain ⟨-,qv,dv,rfl, -⟩:=k1
 obtain ⟨qt,dt,rfl, -⟩:=k2.form
 obtain ⟨qs,ds,rfl, -⟩:=k3.form
 obtain ⟨qr,dr,rfl, -⟩:=k4.form
 have HQ:Hid (QOwn (fun q=>w6.heap.size≤q) w7 (((Fm.mk fk fnm fop fvs fts flo fhi fpn fss frs),(⟨.slice qv fvs.length dv,.slice qt fts.length dt,.slice qs fss.length ds,.slice qr frs.length dr⟩:FQ)):Fm×FQ)):=hQ7
 clear k2 k3 k4 hQ7
 dsimp only [Fm.k,Fm.nm,Fm.op,Fm.lo,Fm.hi,Fm.opn]
 have X7:Hid (w7.heap[w.heap.size]? =_):=(hb7.block _ (by omega)).trans X6.out
 have E7:Hid (w7.heap[w.heap.size+1]? =_):=(hb7.block _ (by omega)).trans E6.out
 have A7:Hid (w7.heap[w.heap.size+2]? =_):=(hb7.block _ (by omega)).trans A6.out
 have B7:Hid (Below w.heap.size w w7):=B6.out.trans (hb7.mono (by omega))
 have z7:w6.heap.size≤w7.heap.size:=hb7.size
 clear hb7 B6 X6 E6 A6 T6 WC
 obtain ⟨x0,x1,x2,x3,x4,x5,x6,x7,x8,x9⟩:=bx10 X7.out
 obtain ⟨f0,f1,f2,f3,f4,f5,f6,f7,f8,f9⟩:=bz10 X7.out
 have y0:w7.cell? ⟨w.heap.size+1,0,none⟩=some (.int .i64 0):=by rw [Lib.cell_of_heap E7.out];rfl
 have g0:w7.frozen? ⟨w.heap.size+1,0,none⟩=false:=Lib.frozen_of_heap E7.out _
 have t0:w7.cell? ⟨w.heap.size+2,0,none⟩=some (.int .i64 0):=by rw [Lib.cell_of_heap A7.out];rfl
 have u0:w7.frozen? ⟨w.heap.size+2,0,none⟩=false:=Lib.frozen_of_heap A7.out _
 go_upto_region 6 with fail
 refine wp_world ?_
 intro W8 hW8
 have F8:Fr (fun k=>k=w.heap.size) w7 W8:=by rw [hW8];exact frp10 (P:=fun k=>k=w.heap.size) (Fr.refl _ w7) (Or.inl rfl) _ _ _ _ _ _ _ _ _ _
 have X8:Hid (W8.heap[w.heap.size]? =some (.cells #[.int .i64 fk,.string fnm,.int .i64 fop,.slice qv fvs.length dv,.slice qt fts.length dt,.int .i64 flo,.int .i64 fhi,.bool fpn,.slice qs fss.length ds,.slice qr frs.length dr] 29 (0,0))):=by rw [hW8];exact put10 X7.out
 have E8:Hid (W8.heap[w.heap.size+1]? =_):=F8.heap E7.out (fun e=>by omega)
 have A8:Hid (W8.heap[w.heap.size+2]? =_):=F8.heap A7.out (fun e=>by omega)
 have B8:Hid (Below w.heap.size w W8):=B7.out.trans (F8.below B7.out.size (fun k e=>by omega))
 have Q8:Hid (QOwn (fun q=>w6.heap.size≤q) W8 (((Fm.mk fk fnm fop fvs fts flo fhi fpn fss frs),(⟨.slice qv fvs.length dv,.slice qt fts.length dt,.slice qs fss.length ds,.slice qr frs.length dr⟩:FQ)):Fm×FQ)):=HQ.out.keep (fun q hq hlt=>F8.block q hlt (fun e=>by omega))
 have z8:w6.heap.size≤W8.heap.size:=Nat.le_trans z7 F8.size
 have CK8:Hid (Calls Tryz.prog 19 #[.agg #[.int .i64 fk,.string fnm,.int .i64 fop,.slice qv fvs.length dv,.slice qt fts.length dt,.int .i64 flo,.int .i64 fhi,.bool fpn,.slice qs fss.length ds,.slice qr frs.length dr]] W8 fun r w'=>r=.returned (.int .i64 0)∧Below W8.heap.size W8 w'):=CK.out ⟨.slice qv fvs.length dv,.slice qt fts.length dt,.slice qs fss.length ds,.slice qr frs.length dr⟩ W8 Q8.out.at
 clear hW8 F8 x0 x1 x2 x3 x4 x5 x6 x7 x8 x9 f0 f1 f2 f3 f4 f5 f6 f7 f8 f9 y0 g0 t0 u0 X7 E7 A7 B7 HQ CK z7
 obtain ⟨x0,x1,x2,x3,x4,x5,x6,x7,x8,x9⟩:=bx10 X8.out
 go_wp2_with fail
 refine CK8.out.mono ?_
 rintro e w9 ⟨rfl,hb9⟩
 have X9:Hid (w9.heap[w.heap.size]? =_):=(hb9.block _ (by omega)).trans X8.out
 have E9:Hid (w9.heap[w.heap.size+1]? =_):=(hb9.block _ (by omega)).trans E8.out
 have A9:Hid (w9.heap[w.heap.size+2]? =_):=(hb9.block _ (by omega)).trans A8.out
 have B9:Hid (Below w.heap.size w w9):=B8.out.trans (hb9.mono (by omega))
 have Q9:Hid (QOwn (fun q=>w6.heap.size≤q) w9 (((Fm.mk fk fnm fop fvs fts flo fhi fpn fss frs),(⟨.slice qv fvs.length dv,.slice qt fts.length dt,.slice qs fss.length ds,.slice qr frs.length dr⟩:FQ)):Fm×FQ)):=Q8.out.keep (fun q hq hlt=>hb9.block q hlt)
 have z9:w6.heap.size≤w9.heap.size:=Nat.le_trans z8 hb9.size
 clear hb9 X8 E8 A8 B8 Q8 CK8 z8 x0 x1 x2 x3 x4 x5 x6 x7 x8 x9
 obtain ⟨x0,x1,x2,x3,x4,x5,x6,x7,x8,x9⟩:=bx10 X9.out
 obtain ⟨f0,f1,f2,f3,f4,f5,f6,f7,f8,f9⟩:=bz10 X9.out
 have y0:w9.cell? ⟨w.heap.size+1,0,none⟩=some (.int .i64 0):=by rw [Lib.cell_of_heap E9.out];rfl
 have g0:w9.frozen? ⟨w.heap.size+1,0,none⟩=false:=Lib.frozen_of_heap E9.out _
 have t0:w9.cell? ⟨w.heap.size+2,0,none⟩=some (.int .i64 0):=by rw [Lib.cell_of_heap A9.out];rfl
 have u0:w9.frozen? ⟨w.heap.size+2,0,none⟩=false:=Lib.frozen_of_heap A9.out _
 have T9:=three (u:=.int .i64 0) (v:=.int .i64 0) (v0:=.int .i64 fk) (v1:=.string fnm) (v2:=.int .i64 fop) (v3:=.slice qv fvs.length dv) (v4:=.slice qt fts.length dt) (v5:=.int .i64 flo) (v6:=.int .i64 fhi) (v7:=.bool fpn) (v8:=.slice qs fss.length ds) (v9:=.slice qr frs.length dr) X9.out E9.out A9.out (by omega) (by omega) (by omega)
 have BF9:=(Below.setCell (Below.setCell (bput10 B9.out (Nat.le_refl _) (.int .i64 fk) (.string fnm) (.int .i64 fop) (.slice qv fvs.length dv) (.slice qt fts.length dt) (.int .i64 flo) (.int .i64 fhi) (.bool fpn) (.slice qs fss.length ds) (.slice qr frs.length dr)) (p:=⟨w.heap.size+1,0,none⟩) (by dsimp only;omega) (.int .i64 0)) (p:=⟨w.heap.size+2,0,none⟩) (by dsimp only;omega) (.int .i64 0))
 have QF9:QOwn (fun q=>w.heap.size≤q) _ (((Fm.mk fk fnm fop fvs fts flo fhi fpn fss frs),(⟨.slice qv fvs.length dv,.slice qt fts.length dt,.slice qs fss.length ds,.slice qr frs.length dr⟩:FQ)):Fm×FQ):=(Q9.out.mono (P':=fun q=>w6.heap.size≤q∧w.heap.size≤q) (fun q h1 h2=>⟨h1,by omega⟩)).keep (fun q hq hlt=>(Fr.setCell (Fr.setCell (frp10 (Fr.refl (fun k=>k=w.heap.size∨k=w.heap.size+1∨k=w.heap.size+2) w9) (Or.inl (Or.inl rfl)) (.int .i64 fk) (.string fnm) (.int .i64 fop) (.slice qv fvs.length dv) (.slice qt fts.length dt) (.int .i64 flo) (.int .i64 fhi) (.bool fpn) (.slice qs fss.length ds) (.slice qr frs.length dr)) (p:=⟨w.heap.size+1,0,none⟩) (Or.inl (Or.inr (Or.inl rfl))) (.int .i64 0)) (p:=⟨w.heap.size+2,0,none⟩) (Or.inl (Or.inr (Or.inr rfl))) (.int .i64 0)).block q hlt (fun e=>by omega)) |>.mono (fun q h1 h2=>h1.2)
 clear B9 X9 E9 A9 Q9
 go_wp2
 generalize World.setCell _ _ _=WF at T9 BF9 QF9 ⊢
 obtain ⟨XF,EF,AF⟩:=T9
 clear x0 x1 x2 x3 x4 x5 x6 x7 x8 x9 f0 f1 f2 f3 f4 f5 f6 f7 f8 f9 y0 g0 t0 u0
 refine leaves_cons (f:=16) (args:=#[.pointer (some ⟨w.heap.size,0,none⟩),.pointer (some ⟨w.heap.size+1,0,none⟩),.pointer (some ⟨w.heap.size+2,0,none⟩)]) (by simp) (by simp [go_sem]) ?_
 refine (catch_idle _ _ _ _).mono ?_
 rintro e u' w'' ⟨rfl,rfl,hw⟩
 replace hw:=hw.symm
 subst hw
 obtain ⟨x0,x1,x2,x3,x4,x5,x6,x7,x8,x9⟩:=bx10 XF
 have y0:WF.cell? ⟨w.heap.size+1,0,none⟩=_:=(Lib.cell_of_heap EF _).trans rfl
 have t0:WF.cell? ⟨w.heap.size+2,0,none⟩=_:=(Lib.cell_of_heap AF _).trans rfl
 simp [Leaves,settle,results,Tryz.results9,go_sem,x0,x1,x2,x3,x4,x5,x6,x7,x8,x9,y0,t0]
 exact ⟨⟨⟨_,_,_,_⟩,rfl,QF9⟩,BF9⟩
theorem pHead_eq (sz n:Nat) (pt:List (Tok Val)→Rd Tm) (pf:List (Tok Val)→Rd Fm) (pr:List (Tok Val)→Rd Rx) (ts:List (Tok Val)):∃ u,pHead sz n pt pf pr ts=(if nameB (txB (tkH sz ts)) then (rMany pt true n 0 u).bind fun l r'=>.ok (fmP (txB (tkH sz ts)) l) r' else match kindIn hdF (tkH sz ts).x 4 19 with | none=>.bad 70 (tkH sz ts).at_ | some k=>pShaped sz n pt pf pr k u)∧((tkH sz ts).x≠[]→∃ t,ts=t::u)∧u.length≤ts.length:=by
 cases ts with
 | nil=>exact ⟨[],rfl,fun h=>absurd rfl h,Nat.le_refl _⟩
 | cons t r=>exact ⟨r,rfl,fun _=>⟨t,rfl⟩,by simp⟩
theorem field_head (s:ByteArray) (b1 b2 b3 b4 b8:Bool) (n5 n6 n7:Int) (w:World):(Instr.field 82 (.agg #[.string s,.bool b1,.bool b2,.bool b3,.bool b4,.int .i64 n5,.int .i64 n6,.int .i64 n7,.bool b8]) 0).run Tryz.prog w=.ok (.string s) w:=by kernel_rfl
theorem headed_name (m R sz:Nat) (ts:List (Tok Val)) (d:Int) (w:World) (h:RdAt m w R sz ts) (n:Nat) (pt:List (Tok Val)→Rd Tm) (hb:nameB (txB (tkH sz ts))=true) (t0:Tok Val) (u:List (Tok Val)) (hT:ts=t0::u) (HT:∀ W:World,RdAt m W R sz u→Calls Tryz.prog 120 #[.pointer (some ⟨R,0,none⟩),.int .i64 ((0:Nat):Int),.bool true,.int .i64 d] W (RdO m R sz W (fun l v w'=>TmsOwn (fun q=>W.heap.size≤q) w' v l) (rMany pt true n 0 u))):Calls Tryz.prog 75 #[.pointer (some ⟨R,0,none⟩),.int .i64 d] w (RdO m R sz w (FmV w) ((rMany pt true n 0 u).bind fun l r'=>.ok (fmP (txB (tkH sz ts)) l) r')):=by
 have CN:Hid (∀ W:World,Below w.heap.size w W→Calls Tryz.prog 32 #[.pointer (some ⟨R,0,none⟩)] W (NxO m R sz ts W (.agg #[.int .i64 (tkH sz ts).k,.int .i64 (tkH sz ts).at_,.string (txB (tkH sz ts)),.int .i64 (tkH sz ts).v.k,.int .i64 (tkH sz ts).v.n,.int .i64 (tkH sz ts).v.d,.string (tkH sz ts).v.s]))):=fun W hW=>next_at m R sz ts W (h.below hW)
 have hlt:=h.lt
 have hNm:Hid (∀ W:World,Calls Tryz.prog 119 #[.string (txB (tkH sz ts))] W fun e w'=>e=.returned (.bool true)∧w'=W):=fun W=>(name_any _ W).mono fun e w' h=>⟨by rw [h.1,hb],h.2⟩
 have K3:Hid (∀ W:World,RdAt m W R sz u→Calls Tryz.prog 120 #[.pointer (some ⟨R,0,none⟩),.int .i64 ((0:Nat):Int),.bool true,.int .i64 d] W (RdO m R sz W (fun l v w'=>TmsOwn (fun q=>W.heap.size≤q) w' v l) (rMany pt true n 0 u))):=HT
 have hPc:Hid ((∃ er a,rMany pt true n 0 u=.bad er a)∨∃ x r,rMany pt true n 0 u=.ok x r):=by
  cases hq:rMany pt true n 0 u with
  | bad er a=>exact Or.inl ⟨er,a,rfl⟩
  | ok x r=>exact Or.inr ⟨x,r,rfl⟩
 obtain ⟨RS,hRS⟩:∃ x:Rd Fm,Hid (((rMany pt true n 0 u).bind fun l r'=>Rd.ok (fmP (txB (tkH sz ts)) l) r')=x):=⟨_,rfl⟩
 rw [hRS.out]
 clear HT
 generalize (tkH sz ts).k=tk at*
 generalize (tkH sz ts).at_=ta at*
 generalize txB (tkH sz ts)=tx at*
 generalize (tkH sz ts).v.k=vk at*
 generalize (tkH sz ts).v.n=vn at*
 generalize (tkH sz ts).v.d=vd at*
 generalize (tkH sz ts).v.s=vs at*
 go_enter Tryz.func75,Tryz.ntmps75
 go_wp2_with fail
 refine (CN.out _ (by go_grown)).mono ?_
 rintro e w1 ⟨rfl,hF,hN⟩
 have z1:w.heap.size<w1.heap.size:=by have:=hF.size;simp at this;omega
 have X1:Hid (w1.heap[w.heap.size]? =some (.cells #[.int .i64 0,.string ⟨#[]⟩,.int .i64 0,.slice none 0 0,.slice none 0 0,.int .i64 0,.int .i64 0,.bool false,.slice none 0 0,.slice none 0 0] 29 (0,0))):=hF.heap (new_box w _) (fun e=>by omega)
 have F1:Hid (Fr (fun k=>k=R) w w1):=((Fr.refl (fun k=>k=R) w).alloc _).trans hF (fun k e=>Or.inl e)
 have N1:Hid (∀ t r,ts=t::r→RdAt m w1 R sz r):=hN
 clear hF hN CN
 go_upto_region 2 with fail
 refine wp_world ?_
 intro W2 hW2
 have X2:Hid (W2.heap[w.heap.size]? =some (.cells #[.int .i64 0,.string ⟨#[]⟩,.int .i64 0,.slice none 0 0,.slice none 0 0,.int .i64 0,.int .i64 0,.bool false,.slice none 0 0,.slice none 0 0] 29 (0,0))):=by rw [hW2];exact ((Fr.refl (fun k=>k=R) w1).alloc _).heap X1.out (fun e=>by omega)
 have V2:Hid (W2.heap[w1.heap.size]? =some (.cells #[.int .i64 tk,.int .i64 ta,.string tx,.int .i64 vk,.int .i64 vn,.int .i64 vd,.string vs] 58 (0,0))):=by rw [hW2];exact new_box w1 _
 have F2:Hid (Fr (fun k=>k=R) w W2):=by rw [hW2];exact F1.out.alloc _
 have A2:Hid (∀ t r,ts=t::r→RdAt m W2 R sz r):=fun t r e=>by rw [hW2];exact (N1.out t r e).below ((Below.refl w1.heap.size w1).alloc (Nat.le_refl _) _)
 have zz:w1.heap.size<W2.heap.size:=by rw [hW2];simp
 clear hW2 F1 N1 X1
 generalize w1.heap.size=n1 at*
 obtain ⟨v0,v1,v2,v3,v4,v5,v6⟩:=bx7 V2.out
 go_wp2_with fail
 refine (hNm.out _).mono ?_
 rintro e w9 ⟨rfl,hw9⟩
 obtain rfl:=hw9.symm
 clear hNm
 have A3:Hid (RdAt m W2 R sz u):=A2.out _ _ hT
 clear A2
 go_upto_region 3 with fail
 go_region_law (go_simp;go_at_call 120;refine (K3.out _ (A3.out.below (by go_grown))).mono ?_;intro e w3 q;rcases hPc.out with ⟨er,a,hP⟩ | ⟨l,r3,hP⟩;(·(rw [hP] at q;obtain ⟨rfl,hF9⟩:=q;refine ⟨rfl, ?_⟩;rw [← hRS.out,hP];exact ⟨rfl,(F2.out.drew).trans hF9 (fun k e=>Or.inl e)⟩));rw [hP] at q;obtain ⟨v9,rfl,hO9,hA9,hF9⟩:=q;obtain ⟨p3,c3,rfl, -⟩:=hO9.at.form;have V3:Hid (w3.heap[n1]? =some (.cells #[.int .i64 tk,.int .i64 ta,.string tx,.int .i64 vk,.int .i64 vn,.int .i64 vd,.string vs] 58 (0,0))):=hF9.heap (show W2.drew.heap[n1]? =_ from V2.out) (fun e=>by omega);have X3:Hid (w3.heap[w.heap.size]? =some (.cells #[.int .i64 0,.string ⟨#[]⟩,.int .i64 0,.slice none 0 0,.slice none 0 0,.int .i64 0,.int .i64 0,.bool false,.slice none 0 0,.slice none 0 0] 29 (0,0))):=hF9.heap (show W2.drew.heap[w.heap.size]? =_ from X2.out) (fun e=>by omega);have v23:=(bx7 V3.out).2.2.1;obtain ⟨r0,r1,r2,r3',r4,r5,r6,r7,r8,r9⟩:=bx10 X3.out;obtain ⟨q0,q1,q2,q3,q4,q5,q6,q7,q8,q9⟩:=bz10 X3.out)
 all_goals (
  have F3:Hid (Fr (fun k=>k=R) w w3):=(F2.out.drew).trans hF9 (fun k e=>Or.inl e)
  have A4:Hid (RdAt m w3 R sz r3):=hA9
  have Q3:Hid (TmsOwn (fun q=>W2.heap.size≤q) w3 (.slice p3 l.length c3) l):=hO9
  have hG:Hid (RS=.ok (fmP tx l) r3):=by
   show _=_
   rw [← hRS.out,hP,Rd.bind_ok]
  clear hRS hP hO9 hA9 hF9 K3
  go_wp2
  generalize hW9:World.setCell _ _ _=W9
  have X9:W9.heap[w.heap.size]? =some (.cells #[.int .i64 3,.string tx,.int .i64 0,.slice none 0 0,.slice p3 l.length c3,.int .i64 0,.int .i64 0,.bool false,.slice none 0 0,.slice none 0 0] 29 (0,0)):=by rw [← hW9];exact put10 X3.out
  have F9:Fr (fun k=>k=R) w W9:=by rw [← hW9];exact frp10 F3.out (Or.inr (Nat.le_refl _)) _ _ _ _ _ _ _ _ _ _
  have G9:Fr (fun k=>k=w.heap.size) w3 W9:=by rw [← hW9];exact frp10 (Fr.refl (fun k=>k=w.heap.size) w3) (Or.inl rfl) _ _ _ _ _ _ _ _ _ _
  clear hW9
  obtain ⟨x0,x1,x2,x3,x4,x5,x6,x7,x8,x9⟩:=bx10 X9
  refine bodyPost_ret (by simp [results,Tryz.results75,go_sem,x0,x1,x2,x3,x4,x5,x6,x7,x8,x9];try rfl) rfl ?_
  rw [hG.out]
  have Q9:=(Q3.out.keep (w':=W9) (fun q hq hlt9=>G9.block q hlt9 (fun e=>by omega))).mono (P':=fun q=>w.heap.size≤q) (fun q hq _=>by omega)
  exact ⟨_,rfl,⟨⟨.slice none 0 0,.slice p3 l.length c3,.slice none 0 0,.slice none 0 0⟩,rfl,⟨⟨⟨rfl,Or.inl ⟨rfl,rfl⟩⟩,(show (0:Nat)≤9223372036854775807 from Nat.zero_le _),fun q hq=>by cases hq⟩,Q9,fms_none _ _,rxs_none _ _⟩⟩,A4.out.fr G9 (fun k e=>by omega),F9⟩)
theorem headed_word (m R sz:Nat) (ts:List (Tok Val)) (d:Int) (w:World) (h:RdAt m w R sz ts) (n:Nat) (pt:List (Tok Val)→Rd Tm) (pf:List (Tok Val)→Rd Fm) (pr:List (Tok Val)→Rd Rx) (hb:nameB (txB (tkH sz ts))=false) (u:List (Tok Val)) (hT:(∃ k,kindIn hdF (tkH sz ts).x 4 19=some k)→∃ t,ts=t::u) (HS:∀ (kk:Int) (W:World),4≤kk→kk≤22→RdAt m W R sz u→Calls Tryz.prog 121 #[.pointer (some ⟨R,0,none⟩),.int .i64 kk,.int .i64 d] W (RdO m R sz W (FmV W) (pShaped sz n pt pf pr kk u))):Calls Tryz.prog 75 #[.pointer (some ⟨R,0,none⟩),.int .i64 d] w (RdO m R sz w (FmV w) (match kindIn hdF (tkH sz ts).x 4 19 with | none=>.bad 70 (tkH sz ts).at_ | some k=>pShaped sz n pt pf pr k u)):=by
 have CN:Hid (∀ W:World,Below w.heap.size w W→Calls Tryz.prog 32 #[.pointer (some ⟨R,0,none⟩)] W (NxO m R sz ts W (.agg #[.int .i64 (tkH sz ts).k,.int .i64 (tkH sz ts).at_,.string (txB (tkH sz ts)),.int .i64 (tkH sz ts).v.k,.int .i64 (tkH sz ts).v.n,.int .i64 (tkH sz ts).v.d,.string (tkH sz ts).v.s]))):=fun W hW=>next_at m R sz ts W (h.below hW)
 have hlt:=h.lt
 have hNm:Hid (∀ W:World,Calls Tryz.prog 119 #[.string (txB (tkH sz ts))] W fun e w'=>e=.returned (.bool false)∧w'=W):=fun W=>(name_any _ W).mono fun e w' h=>⟨by rw [h.1,hb],h.2⟩
 have hfd:=field_head
 have CS:Hid (∀ (kk:Int) (W:World),4≤kk→kk≤22→RdAt m W R sz u→Calls Tryz.prog 121 #[.pointer (some ⟨R,0,none⟩),.int .i64 kk,.int .i64 d] W (RdO m R sz W (FmV W) (pShaped sz n pt pf pr kk u))):=HS
 have hxx:Hid (∀ k,(⟨(hdF k).toArray⟩:ByteArray).toList=hdF k):=fun k=>by rw [toList_data]
 have htx:(txB (tkH sz ts)).toList=(tkH sz ts).x:=by rw [toList_data];rfl
 obtain ⟨RS,hRS⟩:∃ x:Rd Fm,Hid ((match kindIn hdF (tkH sz ts).x 4 19 with | none=>Rd.bad 70 (tkH sz ts).at_ | some k=>pShaped sz n pt pf pr k u)=x):=⟨_,rfl⟩
 rw [hRS.out]
 have HU:Hid (RS=(match kindIn hdF (tkH sz ts).x 4 19 with | none=>Rd.bad 70 (tkH sz ts).at_ | some k=>pShaped sz n pt pf pr k u)):=hRS.out.symm
 have HT2:Hid ((∃ k,kindIn hdF (tkH sz ts).x 4 19=some k)→∃ t,ts=t::u):=hT
 clear hRS hT HS
 obtain ⟨xx,hx9⟩:∃ l:List UInt8,Hid ((tkH sz ts).x=l):=⟨_,rfl⟩
 rw [hx9.out] at HU HT2 htx
 clear hx9 hb
 generalize (tkH sz ts).k=tk at*
 generalize (tkH sz ts).at_=ta at*
 generalize txB (tkH sz ts)=tx at*
 generalize (tkH sz ts).v.k=vk at*
 generalize (tkH sz ts).v.n=vn at*
 generalize (tkH sz ts).v.d=vd at*
 generalize (tkH sz ts).v.s=vs at*
 go_enter Tryz.func75,Tryz.ntmps75
 go_wp2_with fail
 refine (CN.out _ (by go_grown)).mono ?_
 rintro e w1 ⟨rfl,hF,hN⟩
 have z1:w.heap.size<w1.heap.size:=by have:=hF.size;simp at this;omega
 have X1:Hid (w1.heap[w.heap.size]? =some (.cells #[.int .i64 0,.string ⟨#[]⟩,.int .i64 0,.slice none 0 0,.slice none 0 0,.int .i64 0,.int .i64 0,.bool false,.slice none 0 0,.slice none 0 0] 29 (0,0))):=hF.heap (new_box w _) (fun e=>by omega)
 have F1:Hid (Fr (fun k=>k=R) w w1):=((Fr.refl (fun k=>k=R) w).alloc _).trans hF (fun k e=>Or.inl e)
 have N1:Hid (∀ t r,ts=t::r→RdAt m w1 R sz r):=hN
 clear hF hN CN
 go_upto_region 2 with fail
 refine wp_world ?_
 intro W2 hW2
 have X2:Hid (W2.heap[w.heap.size]? =some (.cells #[.int .i64 0,.string ⟨#[]⟩,.int .i64 0,.slice none 0 0,.slice none 0 0,.int .i64 0,.int .i64 0,.bool false,.slice none 0 0,.slice none 0 0] 29 (0,0))):=by rw [hW2];exact ((Fr.refl (fun k=>k=R) w1).alloc _).heap X1.out (fun e=>by omega)
 have V2:Hid (W2.heap[w1.heap.size]? =some (.cells #[.int .i64 tk,.int .i64 ta,.string tx,.int .i64 vk,.int .i64 vn,.int .i64 vd,.string vs] 58 (0,0))):=by rw [hW2];exact new_box w1 _
 have F2:Hid (Fr (fun k=>k=R) w W2):=by rw [hW2];exact F1.out.alloc _
 have A2:Hid (∀ t r,ts=t::r→RdAt m W2 R sz r):=fun t r e=>by rw [hW2];exact (N1.out t r e).below ((Below.refl w1.heap.size w1).alloc (Nat.le_refl _) _)
 have zz:w1.heap.size<W2.heap.size:=by rw [hW2];simp
 clear hW2 F1 N1 X1
 generalize w1.heap.size=n1 at*
 obtain ⟨v0,v1,v2,v3,v4,v5,v6⟩:=bx7 V2.out
 go_wp2_with fail
 refine (hNm.out _).mono ?_
 rintro e w9 ⟨rfl,hw9⟩
 obtain rfl:=hw9.symm
 clear hNm
 clear v0 v1 v2 v3 v4 v5 v6
 go_wp2
 go_loopw [6] (fun v wr=>∃ (i:Nat),v=.int .i64 ((i:Int)+4)∧i≤19∧Hid (kindIn hdF xx 4 19=kindIn hdF xx ((i:Int)+4) (19 - i))∧Hid (Below W2.heap.size W2 wr)) (fun v _=>40 - (intOf v).toNat)
 case atStart=>exact ⟨0,by simp,by omega,rfl,Below.refl _ _⟩
 case round=>
  obtain ⟨i,rfl,hi,hK,hB⟩:=hrel
  have hBs:=hB.out.size
  have V5:Hid (wr.heap[n1]? =_):=(hB.out.block n1 zz).trans V2.out
  have X5:Hid (wr.heap[w.heap.size]? =_):=(hB.out.block _ (by omega)).trans X2.out
  obtain ⟨v0,v1,v2,v3,v4,v5,v6⟩:=bx7 V5.out
  have F5:Hid (Fr (fun k=>k=R) w wr):=F2.out.trans (Fr.of_below (P:=fun _=>False) hB.out) (fun _ q=>q.elim)
  have A5:Hid (∀ t r,ts=t::r→RdAt m wr R sz r):=fun t r e=>(A2.out t r e).below hB.out
  by_cases h6:i<19
  case neg=>
   have c1:¬ (i:Int)+4≤22:=by omega
   have hG:Hid (RS=Rd.bad 70 ta):=by
    show _=_
    have e:i=19:=by omega
    rw [HU.out,hK.out,e]
    rfl
   clear hK HU A5 HT2 A2 X2 V2 F2 CS
   go_wp2_with fail
   refine (misplaced_at _ _ _ _ _ _ _ _).mono ?_
   rintro e w6 ⟨rfl,hb6⟩
   have F6:Fr (fun k=>k=R) w w6:=F5.out.trans (Fr.of_below (P:=fun _=>False) hb6) (fun _ q=>q.elim)
   clear hb6
   go_wp2
   refine ⟨rfl, ?_⟩
   rw [hG.out]
   exact ⟨rfl,F6⟩
  have c1:(i:Int)+4≤22:=by omega
  have e1:(⟨(hdF ((i:Int)+4)).toArray⟩:ByteArray).toList=hdF ((i:Int)+4):=hxx.out _
  have c2:Hid (∀ W:World,Calls Tryz.prog 35 #[.int .i64 ((i:Int)+4)] W fun e w'=>e=.returned (.agg #[.string ⟨(hdF ((i:Int)+4)).toArray⟩,.bool (shp ((i:Int)+4)).named,.bool (shp ((i:Int)+4)).reck,.bool (shp ((i:Int)+4)).listed,.bool (shp ((i:Int)+4)).timed,.int .i64 (shp ((i:Int)+4)).terms,.int .i64 (shp ((i:Int)+4)).rgx,.int .i64 (shp ((i:Int)+4)).subs,.bool (shp ((i:Int)+4)).more])∧Below W.heap.size W w'):=fun W=>by
   have q:=shape_any ((i:Int)+4) W (by omega) (by omega)
   rw [if_neg (by omega)] at q
   exact q
  have hK2:Hid (kindIn hdF xx 4 19=if hdF ((i:Int)+4)=xx then some ((i:Int)+4) else kindIn hdF xx ((i:Int)+4+1) (19 - (i+1))):=by
   show _=_
   rw [hK.out]
   have e:19 - i=(19 - (i+1))+1:=by omega
   rw [e,kindIn_succ]
  clear hK
  generalize (⟨(hdF ((i:Int)+4)).toArray⟩:ByteArray)=ww at*
  generalize (shp ((i:Int)+4)).named=s1 at*
  generalize (shp ((i:Int)+4)).reck=s2 at*
  generalize (shp ((i:Int)+4)).listed=s3 at*
  generalize (shp ((i:Int)+4)).timed=s4 at*
  generalize (shp ((i:Int)+4)).terms=s5 at*
  generalize (shp ((i:Int)+4)).rgx=s6 at*
  generalize (shp ((i:Int)+4)).subs=s7 at*
  generalize (shp ((i:Int)+4)).more=s8 at*
  by_cases hq:hdF ((i:Int)+4)=xx
  case neg=>
   rw [if_neg hq] at hK2
   have q1:(ww.toList==tx.toList)=false:=by rw [e1,htx];simpa using hq
   have hK3:Hid (kindIn hdF xx 4 19=kindIn hdF xx (((i+1:Nat):Int)+4) (19 - (i+1))):=by
    show _=_
    rw [hK2.out]
    congr 1
   clear A5 hq e1 htx hK2 CS HU HT2
   go_upto_region 7 with fail
   go_region_law (go_simp;go_at_call 35;refine (c2.out _).mono ?_;rintro e w3 ⟨rfl,hb3⟩;obtain ⟨hX3,hx3⟩:=bgX (n:=wr.heap.size) (W0:=wr) (by go_grown) (by go_size) hb3;have v23:=(hX3.cell (p:=⟨n1,2,none⟩) (lt_heap V5.out)).trans v2)
   all_goals
    go_wp2
    exact ⟨⟨i+1,by go_num,by omega,hK3,hB.out.trans (Below.mono (B:=wr.heap.size) (by first | assumption | go_grown) hB.out.size)⟩,by simp [intOf];omega⟩
  rw [if_pos hq] at hK2
  obtain ⟨t,ht⟩:=HT2.out ⟨_,hK2.out⟩
  have hG:Hid (RS=pShaped sz n pt pf pr ((i:Int)+4) u):=by
   show _=_
   rw [HU.out,hK2.out]
  have A6:Hid (RdAt m wr R sz u):=A5.out t u ht
  have q1:(ww.toList==tx.toList)=true:=by rw [e1,htx,hq];simp
  have CS6:Hid (∀ W:World,RdAt m W R sz u→Calls Tryz.prog 121 #[.pointer (some ⟨R,0,none⟩),.int .i64 ((i:Int)+4),.int .i64 d] W (RdO m R sz W (FmV W) (pShaped sz n pt pf pr ((i:Int)+4) u))):=fun W hW=>CS.out _ W (by omega) (by omega) hW
  clear hK2 HU A5 A2 HT2 ht hq e1 htx CS X2 V2 F2
  go_upto_region 7 with fail
  go_region_law (go_simp;go_at_call 35;refine (c2.out _).mono ?_;rintro e w3 ⟨rfl,hb3⟩;obtain ⟨hX3,hx3⟩:=bgX (n:=wr.heap.size) (W0:=wr) (by go_grown) (by go_size) hb3;have v23:=(hX3.cell (p:=⟨n1,2,none⟩) (lt_heap V5.out)).trans v2)
  all_goals (
   have K3:Hid (Below wr.heap.size wr w3):=by first | assumption | go_grown
   have A7:Hid (RdAt m w3 R sz u):=A6.out.below K3.out
   have X7:Hid (w3.heap[w.heap.size]? =_):=(K3.out.block _ (lt_heap X5.out)).trans X5.out
   have F7:Hid (Fr (fun k=>k=R) w w3):=F5.out.trans (Fr.of_below (P:=fun _=>False) K3.out) (fun _ q=>q.elim)
   have CS7:Hid (Calls Tryz.prog 121 #[.pointer (some ⟨R,0,none⟩),.int .i64 ((i:Int)+4),.int .i64 d] w3 (RdO m R sz w3 (FmV w3) (pShaped sz n pt pf pr ((i:Int)+4) u))):=CS6.out w3 A7.out
   clear CS6 K3 A6 X5 F5
   cases hP:pShaped sz n pt pf pr ((i:Int)+4) u with
   | bad er a=>
    rw [hP] at CS7 hG
    go_wp2_with fail
    refine CS7.out.mono ?_
    rintro e w4 ⟨rfl,hF4⟩
    refine ⟨rfl, ?_⟩
    rw [hG.out]
    exact ⟨rfl,F7.out.trans hF4 (fun k e=>Or.inl e)⟩
   | ok ff r3=>
    rw [hP] at CS7 hG
    clear hP
    go_wp2_with fail
    refine CS7.out.mono ?_
    rintro e w4 ⟨vv,rfl,⟨q3,rfl,hQ3⟩,hA4,hF4⟩
    have HQ:Hid (QOwn (fun q=>w3.heap.size≤q) w4 (ff,q3)):=hQ3
    obtain ⟨uv,ut,us,ur⟩:=q3
    obtain ⟨k1,k2,k3,k4⟩:=hQ3.at
    dsimp only at k1 k2 k3 k4
    obtain ⟨-,qv,dv,rfl, -⟩:=k1
    obtain ⟨qt,dt,rfl, -⟩:=k2.form
    obtain ⟨qs,ds,rfl, -⟩:=k3.form
    obtain ⟨qr,dr,rfl, -⟩:=k4.form
    clear k2 k3 k4 hQ3
    have F4:Hid (Fr (fun k=>k=R) w w4):=F7.out.trans hF4 (fun k e=>Or.inl e)
    have X4:Hid (w4.heap[w.heap.size]? =_):=hF4.heap X7.out (fun e=>by omega)
    have A4:Hid (RdAt m w4 R sz r3):=hA4
    have zw:w.heap.size<w3.heap.size:=lt_heap X7.out
    clear hF4 hA4 CS7 X7 F7 A7
    obtain ⟨fk,efk⟩:∃ x,Hid (ff.k=x):=⟨_,rfl⟩
    obtain ⟨fnm,efn⟩:∃ x,Hid (ff.nm=x):=⟨_,rfl⟩
    obtain ⟨fop,efo⟩:∃ x,Hid (ff.op=x):=⟨_,rfl⟩
    obtain ⟨flo,efl⟩:∃ x,Hid (ff.lo=x):=⟨_,rfl⟩
    obtain ⟨fhi,efh⟩:∃ x,Hid (ff.hi=x):=⟨_,rfl⟩
    obtain ⟨fop2,efp⟩:∃ x,Hid (ff.opn=x):=⟨_,rfl⟩
    obtain ⟨nv,env⟩:∃ x,Hid (ff.vars.length=x):=⟨_,rfl⟩
    obtain ⟨nt,ent⟩:∃ x,Hid (ff.terms.length=x):=⟨_,rfl⟩
    obtain ⟨ns,ens⟩:∃ x,Hid (ff.subs.length=x):=⟨_,rfl⟩
    obtain ⟨nr,enr⟩:∃ x,Hid (ff.rgx.length=x):=⟨_,rfl⟩
    rw [efk.out,efn.out,efo.out,efl.out,efh.out,efp.out,env.out,ent.out,ens.out,enr.out]
    rw [env.out,ent.out,ens.out,enr.out] at HQ
    obtain ⟨r0,r1,r2,r3,r4,r5,r6,r7,r8,r9⟩:=bx10 X4.out
    obtain ⟨q0,q1,q2,q3,q4,q5,q6,q7,q8,q9⟩:=bz10 X4.out
    go_wp2
    generalize hW9:World.setCell _ _ _=W9
    have X9:W9.heap[w.heap.size]? =some (.cells #[.int .i64 fk,.string fnm,.int .i64 fop,.slice qv nv dv,.slice qt nt dt,.int .i64 flo,.int .i64 fhi,.bool fop2,.slice qs ns ds,.slice qr nr dr] 29 (0,0)):=by rw [← hW9];exact put10 X4.out
    have F9:Fr (fun k=>k=R) w W9:=by rw [← hW9];exact frp10 F4.out (Or.inr (Nat.le_refl _)) _ _ _ _ _ _ _ _ _ _
    have G9:Fr (fun k=>k=w.heap.size) w4 W9:=by rw [← hW9];exact frp10 (Fr.refl (fun k=>k=w.heap.size) w4) (Or.inl rfl) _ _ _ _ _ _ _ _ _ _
    clear hW9
    obtain ⟨x0,x1,x2,x3,x4,x5,x6,x7,x8,x9⟩:=bx10 X9
    refine bodyPost_ret (by simp [results,Tryz.results75,go_sem,x0,x1,x2,x3,x4,x5,x6,x7,x8,x9];try rfl) rfl ?_
    rw [hG.out]
    have Q9:QOwn (fun q=>w.heap.size≤q) W9 (ff,(⟨.slice qv nv dv,.slice qt nt dt,.slice qs ns ds,.slice qr nr dr⟩:FQ)):=(HQ.out.keep (w':=W9) (fun q hq hlt9=>G9.block q hlt9 (fun e=>by omega))).mono (fun q hq _=>by omega)
    refine ⟨_,rfl,⟨(⟨.slice qv nv dv,.slice qt nt dt,.slice qs ns ds,.slice qr nr dr⟩:FQ), ?_,Q9⟩,A4.out.fr G9 (fun k e=>by omega),F9⟩
    rw [efk.out,efn.out,efo.out,efl.out,efh.out,efp.out])
theorem shaped_plain {nt nr ns:Nat} {mm:Bool} (m R sz N:Nat) (ts:List (Tok Val)) (d k:Int) (hd:ByteArray) (w:World) (h:RdAt m w R sz ts) (n:Nat) (pt:List (Tok Val)→Rd Tm) (pf:List (Tok Val)→Rd Fm) (pr:List (Tok Val)→Rd Rx) (hst:Shr pt) (hsr:Shr pr) (hN:ts.length≤N) (hk1:3≤k) (hk2:k≤22) (hk:shp k=⟨false,false,false,false,nt,nr,ns,mm⟩) (hhd:(⟨(if k=3 then [] else hdF k).toArray⟩:ByteArray)=hd)
  (HT:∀ (kk:Nat) (rr:List (Tok Val)) (W:World),rr.length≤N→RdAt m W R sz rr→Calls Tryz.prog 120 #[.pointer (some ⟨R,0,none⟩),.int .i64 ((kk:Nat):Int),.bool false,.int .i64 d] W (RdO m R sz W (fun l v w'=>TmsOwn (fun q=>W.heap.size≤q) w' v l) (rMany pt false n kk rr)))
  (HR:∀ (kk:Nat) (rr:List (Tok Val)) (W:World),rr.length≤N→RdAt m W R sz rr→Calls Tryz.prog 158 #[.pointer (some ⟨R,0,none⟩),.int .i64 ((kk:Nat):Int),.int .i64 d] W (RdO m R sz W (fun l v w'=>RxsOwn (fun q=>W.heap.size≤q) w' v l) (rMany pr false n kk rr)))
  (HF:∀ (kk:Nat) (more:Bool) (rr:List (Tok Val)) (W:World),rr.length≤N→RdAt m W R sz rr→Calls Tryz.prog 159 #[.pointer (some ⟨R,0,none⟩),.int .i64 ((kk:Nat):Int),.bool more,.int .i64 d] W (RdO m R sz W (fun l v w'=>FmsOwn (fun q=>W.heap.size≤q) w' v l) (rMany pf more n kk rr))):
  Calls Tryz.prog 121 #[.pointer (some ⟨R,0,none⟩),.int .i64 k,.int .i64 d] w (RdO m R sz w (FmV w) (pShaped sz n pt pf pr k ts)):=by
 have hlt:=h.lt
 obtain ⟨RS,hRS⟩:∃ x:Rd Fm,Hid (pShaped sz n pt pf pr k ts=x):=⟨_,rfl⟩
 rw [hRS.out]
 have hEQ:Hid (RS=(rMany pt false n nt ts).bind fun tms r6=>(rMany pr false n nr r6).bind fun rx r7=>(rMany pf mm n ns r7).bind fun fs r8=>.ok (.mk k ⟨#[]⟩ 0 [] tms 0 0 false fs rx) r8):=by
  show _=_
  rw [← hRS.out]
  unfold pShaped
  rw [hk]
  rfl
 have cS:Hid (∀ W:World,Calls Tryz.prog 35 #[.int .i64 k] W fun e w'=>e=.returned (.agg #[.string hd,.bool false,.bool false,.bool false,.bool false,.int .i64 ((nt:Nat):Int),.int .i64 ((nr:Nat):Int),.int .i64 ((ns:Nat):Int),.bool mm])∧Below W.heap.size W w'):=fun W=>by
  have q:=shape_any k W hk1 hk2
  rw [hk] at q
  rw [← hhd]
  exact q
 have CT:Hid (∀ (rr:List (Tok Val)) (W:World),rr.length≤N→RdAt m W R sz rr→Calls Tryz.prog 120 #[.pointer (some ⟨R,0,none⟩),.int .i64 ((nt:Nat):Int),.bool false,.int .i64 d] W (RdO m R sz W (fun l v w'=>TmsOwn (fun q=>W.heap.size≤q) w' v l) (rMany pt false n nt rr))):=fun rr W hl hW=>HT nt rr W hl hW
 have CR:Hid (∀ (rr:List (Tok Val)) (W:World),rr.length≤N→RdAt m W R sz rr→Calls Tryz.prog 158 #[.pointer (some ⟨R,0,none⟩),.int .i64 ((nr:Nat):Int),.int .i64 d] W (RdO m R sz W (fun l v w'=>RxsOwn (fun q=>W.heap.size≤q) w' v l) (rMany pr false n nr rr))):=fun rr W hl hW=>HR nr rr W hl hW
 have CF:Hid (∀ (rr:List (Tok Val)) (W:World),rr.length≤N→RdAt m W R sz rr→Calls Tryz.prog 159 #[.pointer (some ⟨R,0,none⟩),.int .i64 ((ns:Nat):Int),.bool mm,.int .i64 d] W (RdO m R sz W (fun l v w'=>FmsOwn (fun q=>W.heap.size≤q) w' v l) (rMany pf mm n ns rr))):=fun rr W hl hW=>HF ns mm rr W hl hW
 have CI:Hid (∀ (rr:List (Tok Val)) (W:World),RdAt m W R sz rr→Calls Tryz.prog 157 #[.pointer (some ⟨R,0,none⟩)] W (RdO m R sz W (fun iv v _=>v=.agg #[.int .i64 iv.1,.int .i64 iv.2.1,.bool iv.2.2]) (rIv sz rr))):=fun rr W hW=>rival_any m R sz rr W hW
 have STm:Hid (∀ kk ts a r,rMany pt false n kk ts=.ok a r→r.length≤ts.length):=fun kk ts a r e=>sh_many (fun ts a r e=>by have:=hst ts a r e;omega) false n kk ts a r e
 have SRm:Hid (∀ kk ts a r,rMany pr false n kk ts=.ok a r→r.length≤ts.length):=fun kk ts a r e=>sh_many (fun ts a r e=>by have:=hsr ts a r e;omega) false n kk ts a r e
 clear hRS HT HR HF hst hsr hk hhd
 go_enter Tryz.func121,Tryz.ntmps121
 go_wp2_with fail
 refine (cS.out _).mono ?_
 rintro e w1 ⟨rfl,hb1⟩
 have z1:w.heap.size<w1.heap.size:=by have:=hb1.size;simp at this;omega
 have X1:Hid (w1.heap[w.heap.size]? =some (.cells #[.int .i64 0,.string ⟨#[]⟩,.int .i64 0,.slice none 0 0,.slice none 0 0,.int .i64 0,.int .i64 0,.bool false,.slice none 0 0,.slice none 0 0] 29 (0,0))):=(hb1.block w.heap.size (by simp)).trans (new_box w _)
 have F1:Hid (Fr (fun k=>k=R) w w1):=Fr.of_below (((Below.refl _ _).alloc (Nat.le_refl _) _).trans (hb1.mono (by simp)))
 have A1:Hid (RdAt m w1 R sz ts):=h.below (((Below.refl _ _).alloc (Nat.le_refl _) _).trans (hb1.mono (by simp)))
 clear hb1 cS h
 go_upto_region 2 with fail
 refine wp_world ?_
 intro W2 hW2
 have S2:Hid (W2.heap[w1.heap.size]? =some (.cells #[.string hd,.bool false,.bool false,.bool false,.bool false,.int .i64 ((nt:Nat):Int),.int .i64 ((nr:Nat):Int),.int .i64 ((ns:Nat):Int),.bool mm] 82 (0,0))):=by rw [hW2];exact (Below.heap_alloc _ _ _ (by simp)).trans (new_box w1 _)
 have B2:Hid (W2.heap[w1.heap.size+1]? =some (.cells #[.int .i64 k,.string ⟨#[]⟩,.int .i64 0,.slice none 0 0,.slice none 0 0,.int .i64 0,.int .i64 0,.bool false,.slice none 0 0,.slice none 0 0] 29 (0,0))):=by
  rw [hW2]
  have q:=new_box (w1.alloc (.cells #[.string hd,.bool false,.bool false,.bool false,.bool false,.int .i64 ((nt:Nat):Int),.int .i64 ((nr:Nat):Int),.int .i64 ((ns:Nat):Int),.bool mm] 82)) (.cells #[.int .i64 k,.string ⟨#[]⟩,.int .i64 0,.slice none 0 0,.slice none 0 0,.int .i64 0,.int .i64 0,.bool false,.slice none 0 0,.slice none 0 0] 29)
  simp only [World.size_alloc] at q
  exact q
 have X2:Hid (W2.heap[w.heap.size]? =some (.cells #[.int .i64 0,.string ⟨#[]⟩,.int .i64 0,.slice none 0 0,.slice none 0 0,.int .i64 0,.int .i64 0,.bool false,.slice none 0 0,.slice none 0 0] 29 (0,0))):=by rw [hW2];exact (((Fr.refl (fun k=>k=R) w1).alloc _).alloc _).heap X1.out (fun e=>by omega)
 have F2:Hid (Fr (fun k=>k=R) w W2):=by rw [hW2];exact (F1.out.alloc _).alloc _
 have A2:Hid (RdAt m W2 R sz ts):=by rw [hW2];exact A1.out.below (((Below.refl w1.heap.size w1).alloc (Nat.le_refl _) _).alloc (by simp) _)
 have zz:w1.heap.size+2=W2.heap.size:=by rw [hW2];simp
 clear hW2 F1 A1 X1
 generalize w1.heap.size=n7 at*
 have ZN:Hid (n7+2=W2.heap.size):=zz
 obtain ⟨N2,hN2⟩:∃ x,Hid (W2.heap.size=x):=⟨_,rfl⟩
 have zz2:n7+2=N2:=by rw [← hN2.out];exact ZN.out
 have y2:N2≤W2.heap.size:=Nat.le_of_eq hN2.out.symm
 clear zz ZN hN2
 obtain ⟨s0,s1,s2,s3,s4,s5,s6,s7,s8⟩:=bx9 S2.out
 have K3:Hid (Calls Tryz.prog 120 #[.pointer (some ⟨R,0,none⟩),.int .i64 ((nt:Nat):Int),.bool false,.int .i64 d] W2 (RdO m R sz W2 (fun l v w'=>TmsOwn (fun q=>W2.heap.size≤q) w' v l) (rMany pt false n nt ts))):=CT.out ts W2 (by omega) A2.out
 cases hP3:rMany pt false n nt ts with
 | bad er a=>
  rw [hP3] at K3 hEQ
  go_wp2_with fail
  refine K3.out.mono ?_
  rintro e w9 ⟨rfl,hF9⟩
  refine ⟨rfl, ?_⟩
  rw [hEQ.out]
  exact ⟨rfl,F2.out.trans hF9 (fun k e=>Or.inl e)⟩
 | ok x3 r6=>
  rw [hP3,Rd.bind_ok] at hEQ
  rw [hP3] at K3
  have hl3:=STm.out _ _ _ _ hP3
  clear hP3
  go_wp2_with fail
  refine K3.out.mono ?_
  rintro e w3 ⟨v3,rfl,hQ9,hA9,hF9⟩
  have O30:Hid (TmsOwn (fun q=>N2≤q) w3 v3 x3):=hQ9.mono (fun q hq _=>by omega)
  obtain ⟨p3,c3,rfl, -⟩:=hQ9.at.form
  obtain ⟨l3,el3⟩:∃ y,Hid (x3.length=y):=⟨_,rfl⟩
  rw [el3.out] at O30 ⊢
  clear hQ9
  have F3:Hid (Fr (fun k=>k=R) w w3):=F2.out.trans hF9 (fun k e=>Or.inl e)
  have S3:Hid (w3.heap[n7]? =_):=hF9.heap S2.out (fun e=>by omega)
  have B3:Hid (w3.heap[n7+1]? =_):=hF9.heap B2.out (fun e=>by omega)
  have X3:Hid (w3.heap[w.heap.size]? =_):=hF9.heap X2.out (fun e=>by omega)
  have A3:Hid (RdAt m w3 R sz r6):=hA9
  have y3:N2≤w3.heap.size:=Nat.le_trans y2 hF9.size
  clear hF9 hA9 K3 F2 S2 B2 X2 A2 s0 s1 s2 s3 s4 s5 s6 s7 s8
  obtain ⟨b0,b1,b2,b3,b4,b5,b6,b7,b8,b9⟩:=bx10 B3.out
  obtain ⟨g0,g1,g2,g3,g4,g5,g6,g7,g8,g9⟩:=bz10 B3.out
  go_upto_region 12 with fail
  refine wp_world ?_
  intro W4 hW4
  have G4:Hid (Fr (fun k=>k=n7+1) w3 W4):=by rw [hW4];exact (Fr.refl (fun k=>k=n7+1) w3).setCell (p:=⟨n7+1,4,none⟩) (Or.inl rfl) _
  have B4:Hid (W4.heap[n7+1]? =some (.cells #[.int .i64 k,.string ⟨#[]⟩,.int .i64 0,.slice none 0 0,.slice p3 l3 c3,.int .i64 0,.int .i64 0,.bool false,.slice none 0 0,.slice none 0 0] 29 (0,0))):=by rw [hW4];exact (set_heap (j:=4) B3.out (.slice p3 l3 c3))
  clear hW4
  have F4:Hid (Fr (fun k=>k=R) w W4):=F3.out.trans G4.out (fun k e=>Or.inr (by omega))
  have S4:Hid (W4.heap[n7]? =_):=G4.out.heap S3.out (fun e=>by omega)
  have X4:Hid (W4.heap[w.heap.size]? =_):=G4.out.heap X3.out (fun e=>by omega)
  have A4:Hid (RdAt m W4 R sz r6):=A3.out.fr G4.out (fun k e=>by omega)
  have y4:N2≤W4.heap.size:=Nat.le_trans y3 G4.out.size
  have O430:Hid (TmsOwn (fun q=>N2≤q) W4 (.slice p3 l3 c3) x3):=O30.out.keep (fun q hq hlt9=>G4.out.block q hlt9 (fun e=>by omega))
  clear G4 F3 S3 B3 X3 A3 b0 b1 b2 b3 b4 b5 b6 b7 b8 b9 g0 g1 g2 g3 g4 g5 g6 g7 g8 g9 O30
  obtain ⟨s0,s1,s2,s3,s4,s5,s6,s7,s8⟩:=bx9 S4.out
  have K5:Hid (Calls Tryz.prog 158 #[.pointer (some ⟨R,0,none⟩),.int .i64 ((nr:Nat):Int),.int .i64 d] W4 (RdO m R sz W4 (fun l v w'=>RxsOwn (fun q=>W4.heap.size≤q) w' v l) (rMany pr false n nr r6))):=CR.out r6 W4 (by omega) A4.out
  cases hP5:rMany pr false n nr r6 with
  | bad er a=>
   rw [hP5] at K5 hEQ
   go_wp2_with fail
   refine K5.out.mono ?_
   rintro e w9 ⟨rfl,hF9⟩
   refine ⟨rfl, ?_⟩
   rw [hEQ.out]
   exact ⟨rfl,F4.out.trans hF9 (fun k e=>Or.inl e)⟩
  | ok x5 r7=>
   rw [hP5,Rd.bind_ok] at hEQ
   rw [hP5] at K5
   have hl5:=SRm.out _ _ _ _ hP5
   clear hP5
   go_wp2_with fail
   refine K5.out.mono ?_
   rintro e w5 ⟨v5,rfl,hQ9,hA9,hF9⟩
   have O50:Hid (RxsOwn (fun q=>N2≤q) w5 v5 x5):=hQ9.mono (fun q hq _=>by omega)
   obtain ⟨p5,c5,rfl, -⟩:=hQ9.at.form
   obtain ⟨l5,el5⟩:∃ y,Hid (x5.length=y):=⟨_,rfl⟩
   rw [el5.out] at O50 ⊢
   clear hQ9
   have F5:Hid (Fr (fun k=>k=R) w w5):=F4.out.trans hF9 (fun k e=>Or.inl e)
   have S5:Hid (w5.heap[n7]? =_):=hF9.heap S4.out (fun e=>by omega)
   have B5:Hid (w5.heap[n7+1]? =_):=hF9.heap B4.out (fun e=>by omega)
   have X5:Hid (w5.heap[w.heap.size]? =_):=hF9.heap X4.out (fun e=>by omega)
   have A5:Hid (RdAt m w5 R sz r7):=hA9
   have y5:N2≤w5.heap.size:=Nat.le_trans y4 hF9.size
   have O5430:Hid (TmsOwn (fun q=>N2≤q) w5 (.slice p3 l3 c3) x3):=O430.out.keep (fun q hq hlt9=>hF9.block q hlt9 (fun e=>by omega))
   clear hF9 hA9 K5 F4 S4 B4 X4 A4 s0 s1 s2 s3 s4 s5 s6 s7 s8 O430
   obtain ⟨b0,b1,b2,b3,b4,b5,b6,b7,b8,b9⟩:=bx10 B5.out
   obtain ⟨g0,g1,g2,g3,g4,g5,g6,g7,g8,g9⟩:=bz10 B5.out
   go_upto_region 13 with fail
   refine wp_world ?_
   intro W6 hW6
   have G6:Hid (Fr (fun k=>k=n7+1) w5 W6):=by rw [hW6];exact (Fr.refl (fun k=>k=n7+1) w5).setCell (p:=⟨n7+1,9,none⟩) (Or.inl rfl) _
   have B6:Hid (W6.heap[n7+1]? =some (.cells #[.int .i64 k,.string ⟨#[]⟩,.int .i64 0,.slice none 0 0,.slice p3 l3 c3,.int .i64 0,.int .i64 0,.bool false,.slice none 0 0,.slice p5 l5 c5] 29 (0,0))):=by rw [hW6];exact (set_heap (j:=9) B5.out (.slice p5 l5 c5))
   clear hW6
   have F6:Hid (Fr (fun k=>k=R) w W6):=F5.out.trans G6.out (fun k e=>Or.inr (by omega))
   have S6:Hid (W6.heap[n7]? =_):=G6.out.heap S5.out (fun e=>by omega)
   have X6:Hid (W6.heap[w.heap.size]? =_):=G6.out.heap X5.out (fun e=>by omega)
   have A6:Hid (RdAt m W6 R sz r7):=A5.out.fr G6.out (fun k e=>by omega)
   have y6:N2≤W6.heap.size:=Nat.le_trans y5 G6.out.size
   have O65430:Hid (TmsOwn (fun q=>N2≤q) W6 (.slice p3 l3 c3) x3):=O5430.out.keep (fun q hq hlt9=>G6.out.block q hlt9 (fun e=>by omega))
   have O650:Hid (RxsOwn (fun q=>N2≤q) W6 (.slice p5 l5 c5) x5):=O50.out.keep (fun q hq hlt9=>G6.out.block q hlt9 (fun e=>by omega))
   clear G6 F5 S5 B5 X5 A5 b0 b1 b2 b3 b4 b5 b6 b7 b8 b9 g0 g1 g2 g3 g4 g5 g6 g7 g8 g9 O5430 O50
   obtain ⟨s0,s1,s2,s3,s4,s5,s6,s7,s8⟩:=bx9 S6.out
   have K7:Hid (Calls Tryz.prog 159 #[.pointer (some ⟨R,0,none⟩),.int .i64 ((ns:Nat):Int),.bool mm,.int .i64 d] W6 (RdO m R sz W6 (fun l v w'=>FmsOwn (fun q=>W6.heap.size≤q) w' v l) (rMany pf mm n ns r7))):=CF.out r7 W6 (by omega) A6.out
   cases hP7:rMany pf mm n ns r7 with
   | bad er a=>
    rw [hP7] at K7 hEQ
    go_wp2_with fail
    refine K7.out.mono ?_
    rintro e w9 ⟨rfl,hF9⟩
    refine ⟨rfl, ?_⟩
    rw [hEQ.out]
    exact ⟨rfl,F6.out.trans hF9 (fun k e=>Or.inl e)⟩
   | ok x7 r8=>
    rw [hP7,Rd.bind_ok] at hEQ
    rw [hP7] at K7
    clear hP7
    go_wp2_with fail
    refine K7.out.mono ?_
    rintro e w7 ⟨v7,rfl,hQ9,hA9,hF9⟩
    have O70:Hid (FmsOwn (fun q=>N2≤q) w7 v7 x7):=hQ9.mono (fun q hq _=>by omega)
    obtain ⟨p7,c7,rfl, -⟩:=hQ9.at.form
    obtain ⟨l7,el7⟩:∃ y,Hid (x7.length=y):=⟨_,rfl⟩
    rw [el7.out] at O70 ⊢
    clear hQ9
    have F7:Hid (Fr (fun k=>k=R) w w7):=F6.out.trans hF9 (fun k e=>Or.inl e)
    have S7:Hid (w7.heap[n7]? =_):=hF9.heap S6.out (fun e=>by omega)
    have B7:Hid (w7.heap[n7+1]? =_):=hF9.heap B6.out (fun e=>by omega)
    have X7:Hid (w7.heap[w.heap.size]? =_):=hF9.heap X6.out (fun e=>by omega)
    have A7:Hid (RdAt m w7 R sz r8):=hA9
    have y7:N2≤w7.heap.size:=Nat.le_trans y6 hF9.size
    have O765430:Hid (TmsOwn (fun q=>N2≤q) w7 (.slice p3 l3 c3) x3):=O65430.out.keep (fun q hq hlt9=>hF9.block q hlt9 (fun e=>by omega))
    have O7650:Hid (RxsOwn (fun q=>N2≤q) w7 (.slice p5 l5 c5) x5):=O650.out.keep (fun q hq hlt9=>hF9.block q hlt9 (fun e=>by omega))
    clear hF9 hA9 K7 F6 S6 B6 X6 A6 s0 s1 s2 s3 s4 s5 s6 s7 s8 O65430 O650
    obtain ⟨b0,b1,b2,b3,b4,b5,b6,b7,b8,b9⟩:=bx10 B7.out
    obtain ⟨g0,g1,g2,g3,g4,g5,g6,g7,g8,g9⟩:=bz10 B7.out
    go_upto_region 14 with fail
    refine wp_world ?_
    intro W8 hW8
    have G8:Hid (Fr (fun k=>k=n7+1) w7 W8):=by rw [hW8];exact (Fr.refl (fun k=>k=n7+1) w7).setCell (p:=⟨n7+1,8,none⟩) (Or.inl rfl) _
    have B8:Hid (W8.heap[n7+1]? =some (.cells #[.int .i64 k,.string ⟨#[]⟩,.int .i64 0,.slice none 0 0,.slice p3 l3 c3,.int .i64 0,.int .i64 0,.bool false,.slice p7 l7 c7,.slice p5 l5 c5] 29 (0,0))):=by rw [hW8];exact (set_heap (j:=8) B7.out (.slice p7 l7 c7))
    clear hW8
    have F8:Hid (Fr (fun k=>k=R) w W8):=F7.out.trans G8.out (fun k e=>Or.inr (by omega))
    have S8:Hid (W8.heap[n7]? =_):=G8.out.heap S7.out (fun e=>by omega)
    have X8:Hid (W8.heap[w.heap.size]? =_):=G8.out.heap X7.out (fun e=>by omega)
    have A8:Hid (RdAt m W8 R sz r8):=A7.out.fr G8.out (fun k e=>by omega)
    have y8:N2≤W8.heap.size:=Nat.le_trans y7 G8.out.size
    have O8765430:Hid (TmsOwn (fun q=>N2≤q) W8 (.slice p3 l3 c3) x3):=O765430.out.keep (fun q hq hlt9=>G8.out.block q hlt9 (fun e=>by omega))
    have O87650:Hid (RxsOwn (fun q=>N2≤q) W8 (.slice p5 l5 c5) x5):=O7650.out.keep (fun q hq hlt9=>G8.out.block q hlt9 (fun e=>by omega))
    have O870:Hid (FmsOwn (fun q=>N2≤q) W8 (.slice p7 l7 c7) x7):=O70.out.keep (fun q hq hlt9=>G8.out.block q hlt9 (fun e=>by omega))
    clear G8 F7 S7 B7 X7 A7 b0 b1 b2 b3 b4 b5 b6 b7 b8 b9 g0 g1 g2 g3 g4 g5 g6 g7 g8 g9 O765430 O7650 O70
    obtain ⟨b0,b1,b2,b3,b4,b5,b6,b7,b8,b9⟩:=bx10 B8.out
    obtain ⟨r0,r1,r2,r3,r4,r5,r6,r7,r8,r9⟩:=bx10 X8.out
    obtain ⟨q0,q1,q2,q3,q4,q5,q6,q7,q8,q9⟩:=bz10 X8.out
    go_wp2
    generalize hW9:World.setCell _ _ _=W9
    have X9:W9.heap[w.heap.size]? =some (.cells #[.int .i64 k,.string ⟨#[]⟩,.int .i64 0,.slice none 0 0,.slice p3 l3 c3,.int .i64 0,.int .i64 0,.bool false,.slice p7 l7 c7,.slice p5 l5 c5] 29 (0,0)):=by rw [← hW9];exact put10 X8.out
    have F9:Fr (fun k=>k=R) w W9:=by rw [← hW9];exact frp10 F8.out (Or.inr (Nat.le_refl _)) _ _ _ _ _ _ _ _ _ _
    have G9:Fr (fun k=>k=w.heap.size) W8 W9:=by rw [← hW9];exact frp10 (Fr.refl (fun k=>k=w.heap.size) W8) (Or.inl rfl) _ _ _ _ _ _ _ _ _ _
    clear hW9
    obtain ⟨x0,x1,x2,x3,x4,x5,x6,x7,x8,x9⟩:=bx10 X9
    refine bodyPost_ret (by simp [results,Tryz.results121,go_sem,x0,x1,x2,x3,x4,x5,x6,x7,x8,x9];try rfl) rfl ?_
    rw [hEQ.out]
    refine ⟨_,rfl,⟨⟨.slice none 0 0,(.slice p3 l3 c3),(.slice p7 l7 c7),(.slice p5 l5 c5)⟩,rfl, ?_⟩,A8.out.fr G9 (fun k e=>by omega),F9⟩
    exact ⟨⟨⟨rfl,Or.inl ⟨rfl,rfl⟩⟩,(show (0:Nat)≤9223372036854775807 from Nat.zero_le _),fun q hq=>by cases hq⟩,(O8765430.out.keep (w':=W9) (fun q hq hlt9=>G9.block q hlt9 (fun e=>by omega))).mono (fun q hq _=>by omega),(O870.out.keep (w':=W9) (fun q hq hlt9=>G9.block q hlt9 (fun e=>by omega))).mono (fun q hq _=>by omega),(O87650.out.keep (w':=W9) (fun q hq hlt9=>G9.block q hlt9 (fun e=>by omega))).mono (fun q hq _=>by omega)⟩
end Go.Proofs.YticnfeolbfmgfaaGreatDoor
