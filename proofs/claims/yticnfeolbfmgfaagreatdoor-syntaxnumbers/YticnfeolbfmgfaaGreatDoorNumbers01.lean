/- What syntaxNumbers_holds needs besides. -/
import Derived.Test.YticnfeolbfmgfaaGreatDoorZ09
set_option maxRecDepth 100000
set_option maxHeartbeats 8000000
namespace Go.Proofs.YticnfeolbfmgfaaGreatDoor
open Go.RowKit LX Go.Shelf
set_option linter.unusedVariables false
def mxs:List Nat→Nat
 | []=>0
 | x::l=>max x (mxs l)
theorem mxs_ge:∀ {l:List Nat} {x:Nat},x∈l→x≤mxs l
 | [],x,h=>by cases h
 | y::l,x,h=>by
  rw [mxs]
  rcases List.mem_cons.1 h with rfl | h
  ·omega
  ·have:=mxs_ge h;omega
def ub:Nat→Fm→Nat×Nat
 | 0,_=>(0,0)
 | n+1,f=>
  let ps:=(ptsF f).map (ub n)
  let a:=if f.k=10 then (ps.headD (0,0)).1 else if f.k=19 then 1+(f.vars.drop 1).length else if f.k=20∨f.k=21 then (ps.getD 1 (0,0)).1 else (tvss f.terms).length+(ps.map Prod.fst).sum
  (a,max (mxs (ps.map Prod.snd)) a)
theorem sum_ub (g:Fm→List ByteArray) (b:Fm→Nat):∀ l:List Fm,(∀ f∈l,(g f).length≤b f)→((l.map g).flatten).length≤(l.map b).sum
 | [],_=>by simp
 | f::l,h=>by
  have h1:=sum_ub g b l (fun x hx=>h x (by simp [hx]))
  have h2:=h f (by simp)
  rw [List.map_cons,List.flatten_cons,List.length_append,List.map_cons,List.sum_cons]
  omega
theorem ub_ok:∀ (n:Nat) (f:Fm),nodF f≤n→(fre f).1.length≤(ub n f).1∧(fre f).2≤(ub n f).2:=by
 intro n
 induction n with
 | zero=>intro f hm;rw [nodF_eq] at hm;omega
 | succ n ih=>
  intro f hm
  have hp:=pts_nod f
  have IH:∀ g∈ptsF f,(fre g).1.length≤(ub n g).1∧(fre g).2≤(ub n g).2:=fun g hg=>ih g (by
   obtain ⟨i,hi,rfl⟩:=List.getElem_of_mem hg
   have:=nodFs_get (ptsF f) i hi
   omega)
  have h1:(fre f).1.length≤(ub (n+1) f).1:=by
   rw [fre_eq]
   show (freO f ((ptsF f).map fun g=>(fre g).1)).length≤(if f.k=10 then (((ptsF f).map (ub n)).headD (0,0)).1 else if f.k=19 then 1+(f.vars.drop 1).length else if f.k=20∨f.k=21 then (((ptsF f).map (ub n)).getD 1 (0,0)).1 else (tvss f.terms).length+(((ptsF f).map (ub n)).map Prod.fst).sum)
   unfold freO
   by_cases h10:f.k=10
   ·rw [if_pos h10,if_pos h10]
    refine Nat.le_trans (List.length_filter_le _ _) ?_
    cases hP:ptsF f with
    | nil=>simp
    | cons g l=>exact (IH g (by rw [hP];simp)).1
   rw [if_neg h10,if_neg h10]
   by_cases h19:f.k=19
   ·rw [if_pos h19,if_pos h19]
    have h:=uniN_len [[f.nm],f.vars.drop 1]
    rw [List.flatten_cons,List.flatten_cons,List.flatten_nil,List.append_nil,List.length_append,List.length_singleton] at h
    exact h
   rw [if_neg h19,if_neg h19]
   by_cases h20:f.k=20∨f.k=21
   ·rw [if_pos h20,if_pos h20]
    by_cases hl:1<(ptsF f).length
    ·rw [getD_lt _ _ _ (by rw [List.length_map];exact hl),getD_lt _ _ _ (by rw [List.length_map];exact hl),List.getElem_map,List.getElem_map]
     exact (IH _ (List.getElem_mem hl)).1
    ·rw [List.getD_eq_getElem?_getD,List.getElem?_eq_none (by rw [List.length_map];omega)]
     simp
   rw [if_neg h20,if_neg h20]
   have g1:=uniN_len [tvss f.terms,uniN ((ptsF f).map fun g=>(fre g).1)]
   have g2:=uniN_len ((ptsF f).map fun g=>(fre g).1)
   rw [List.flatten_cons,List.flatten_cons,List.flatten_nil,List.append_nil,List.length_append] at g1
   have g3:=sum_ub (fun g=>(fre g).1) (fun g=>(ub n g).1) (ptsF f) (fun g hg=>(IH g hg).1)
   rw [List.map_map]
   have g4:((ptsF f).map (Prod.fst ∘ ub n)).sum=((ptsF f).map fun g=>(ub n g).1).sum:=rfl
   rw [g4]
   omega
  refine ⟨h1, ?_⟩
  rw [fre_eq] at h1 ⊢
  show max _ _≤max (mxs (((ptsF f).map (ub n)).map Prod.snd)) (ub (n+1) f).1
  refine Nat.max_le.2 ⟨mx_le fun x hx=> ?_,Nat.le_trans h1 (Nat.le_max_right _ _)⟩
  obtain ⟨g,hg,rfl⟩:=List.mem_map.1 hx
  refine Nat.le_trans (IH g hg).2 (Nat.le_trans (mxs_ge ?_) (Nat.le_max_left _ _))
  rw [List.map_map]
  exact List.mem_map.2 ⟨g,hg,rfl⟩
theorem chk_ub {f:Fm} (h1:(frun 1 (0,0) f).1=0) (n:Nat) (h2:decide (nodF f≤n)=true) (h3:decide ((ub n f).2≤8)=true):chkF f=0:=by
 unfold chkF
 have:=(ub_ok n f (of_decide_eq_true h2)).2
 have h4:=of_decide_eq_true h3
 rw [if_pos h1,if_neg (by omega)]
def rdF (l:List UInt8):Fm:=match pAll l.length (T sdB l 0).1 with | .ok f _=>f | .bad _ _=>fmK 1
theorem prs_rd {l:List UInt8} (hl:decide (l.length≤16384)=true) (hT:(T sdB l 0).2=none) (hP:pAll l.length (T sdB l 0).1=.ok (rdF l) []) (h1:(frun 1 (0,0) (rdF l)).1=0) (n:Nat) (h2:decide (nodF (rdF l)≤n)=true) (h3:decide ((ub n (rdF l)).2≤8)=true) (h4:txF (rdF l)=l):∃ f,prsP l=(some f,0,0)∧prtP f=l∧chkF f=0:=by
 have hc:=chk_ub h1 n h2 h3
 have hl':=of_decide_eq_true hl
 refine ⟨rdF l, ?_, ?_,hc⟩
 ·unfold prsP
  rw [if_neg (by omega),hT,hP]
  dsimp only
  rw [if_pos hc]
 ·unfold prtP
  rw [if_pos hc]
  exact h4
def nmL:List ByteArray:=[⟨#[116,114,117,101]⟩,⟨#[40,112,41]⟩,⟨#[40,97,103,103,32,110,32,99,110,116,32,120,32,40,41,32,40,113,32,120,41,41]⟩,⟨#[40,101,120,105,115,116,115,32,40,120,32,121,41,32,40,112,32,120,32,121,41,41]⟩,⟨#[40,108,101,116,32,114,32,40,120,41,32,116,114,117,101,32,40,114,32,49,41,41]⟩,⟨#[40,98,101,102,111,114,101,32,91,48,44,42,93,32,40,115,101,113,32,97,110,121,32,40,116,101,115,116,32,40,112,41,41,41,41]⟩,⟨#[40,106,111,105,110,32,40,112,32,120,41,32,40,110,111,116,32,40,113,32,120,41,41,41]⟩,⟨#[40,97,110,100,32,40,112,32,120,32,49,47,50,41,32,40,60,61,32,120,32,40,43,32,121,32,45,50,41,41,41]⟩]
theorem nm_0:∃ f,prsP [116,114,117,101]=(some f,0,0)∧prtP f=[116,114,117,101]∧chkF f=0:=prs_rd (by kernel_rfl) (by kernel_rfl) (by kernel_rfl) (by kernel_rfl) 40 (by kernel_rfl) (by kernel_rfl) (by kernel_rfl)
theorem nm_1:∃ f,prsP [40,112,41]=(some f,0,0)∧prtP f=[40,112,41]∧chkF f=0:=prs_rd (by kernel_rfl) (by kernel_rfl) (by kernel_rfl) (by kernel_rfl) 40 (by kernel_rfl) (by kernel_rfl) (by kernel_rfl)
theorem nm_2:∃ f,prsP [40,97,103,103,32,110,32,99,110,116,32,120,32,40,41,32,40,113,32,120,41,41]=(some f,0,0)∧prtP f=[40,97,103,103,32,110,32,99,110,116,32,120,32,40,41,32,40,113,32,120,41,41]∧chkF f=0:=prs_rd (by kernel_rfl) (by kernel_rfl) (by kernel_rfl) (by kernel_rfl) 40 (by kernel_rfl) (by kernel_rfl) (by kernel_rfl)
theorem nm_3:∃ f,prsP [40,101,120,105,115,116,115,32,40,120,32,121,41,32,40,112,32,120,32,121,41,41]=(some f,0,0)∧prtP f=[40,101,120,105,115,116,115,32,40,120,32,121,41,32,40,112,32,120,32,121,41,41]∧chkF f=0:=prs_rd (by kernel_rfl) (by kernel_rfl) (by kernel_rfl) (by kernel_rfl) 40 (by kernel_rfl) (by kernel_rfl) (by kernel_rfl)
theorem nm_4:∃ f,prsP [40,108,101,116,32,114,32,40,120,41,32,116,114,117,101,32,40,114,32,49,41,41]=(some f,0,0)∧prtP f=[40,108,101,116,32,114,32,40,120,41,32,116,114,117,101,32,40,114,32,49,41,41]∧chkF f=0:=prs_rd (by kernel_rfl) (by kernel_rfl) (by kernel_rfl) (by kernel_rfl) 40 (by kernel_rfl) (by kernel_rfl) (by kernel_rfl)
theorem nm_5:∃ f,prsP [40,98,101,102,111,114,101,32,91,48,44,42,93,32,40,115,101,113,32,97,110,121,32,40,116,101,115,116,32,40,112,41,41,41,41]=(some f,0,0)∧prtP f=[40,98,101,102,111,114,101,32,91,48,44,42,93,32,40,115,101,113,32,97,110,121,32,40,116,101,115,116,32,40,112,41,41,41,41]∧chkF f=0:=prs_rd (by kernel_rfl) (by kernel_rfl) (by kernel_rfl) (by kernel_rfl) 40 (by kernel_rfl) (by kernel_rfl) (by kernel_rfl)
theorem nm_6:∃ f,prsP [40,106,111,105,110,32,40,112,32,120,41,32,40,110,111,116,32,40,113,32,120,41,41,41]=(some f,0,0)∧prtP f=[40,106,111,105,110,32,40,112,32,120,41,32,40,110,111,116,32,40,113,32,120,41,41,41]∧chkF f=0:=prs_rd (by kernel_rfl) (by kernel_rfl) (by kernel_rfl) (by kernel_rfl) 40 (by kernel_rfl) (by kernel_rfl) (by kernel_rfl)
theorem nm_7:∃ f,prsP [40,97,110,100,32,40,112,32,120,32,49,47,50,41,32,40,60,61,32,120,32,40,43,32,121,32,45,50,41,41,41]=(some f,0,0)∧prtP f=[40,97,110,100,32,40,112,32,120,32,49,47,50,41,32,40,60,61,32,120,32,40,43,32,121,32,45,50,41,41,41]∧chkF f=0:=prs_rd (by kernel_rfl) (by kernel_rfl) (by kernel_rfl) (by kernel_rfl) 40 (by kernel_rfl) (by kernel_rfl) (by kernel_rfl)
theorem nm_all:∀ i (h:i<nmL.length),∃ f,prsP nmL[i].data.toList=(some f,0,0)∧prtP f=nmL[i].data.toList∧chkF f=0
 | 0,_=>nm_0
 | 1,_=>nm_1
 | 2,_=>nm_2
 | 3,_=>nm_3
 | 4,_=>nm_4
 | 5,_=>nm_5
 | 6,_=>nm_6
 | 7,_=>nm_7
 | n+8,h=>by exact absurd h (by show ¬ n+8<8;omega)
theorem nmL_len:nmL.length=8:=rfl
theorem numbers_syn (w:World) (ht:Pow w) (he:Errs w) (h8:6≤w.heap.size):Calls Tryz.prog 3 #[] w fun e w'=>e=.returned (.bool true)∧Below w.heap.size w w':=by
 have CP:Hid (∀ (s:ByteArray) (W:World),Below w.heap.size w W→Calls Tryz.prog 9 #[.string s] W (PsQ s.data.toList W)):=fun s W hW=>parse_syn s W (ht.below hW) (he.below hW h8) (Nat.le_trans h8 hW.size)
 have CL:Hid (∀ W:World,Below w.heap.size w W→Calls Tryz.prog 11 #[] W fun e w'=>e=.returned (.bool true)∧Below W.heap.size W w'):=fun W hW=>live_syn W (ht.below hW) (he.below hW h8) (Nat.le_trans h8 hW.size)
 have HT:Hid (Pow w):=ht
 clear ht he
 go_enter Tryz.func3,Tryz.ntmps3
 go_upto_region 2 with fail
 refine wp_world ?_
 intro W1 hW1
 have X1:Hid (W1.heap[w.heap.size]? =some (.cells #[.string ⟨#[116,114,117,101]⟩,.string ⟨#[40,112,41]⟩,.string ⟨#[40,97,103,103,32,110,32,99,110,116,32,120,32,40,41,32,40,113,32,120,41,41]⟩,.string ⟨#[40,101,120,105,115,116,115,32,40,120,32,121,41,32,40,112,32,120,32,121,41,41]⟩,.string ⟨#[40,108,101,116,32,114,32,40,120,41,32,116,114,117,101,32,40,114,32,49,41,41]⟩,.string ⟨#[40,98,101,102,111,114,101,32,91,48,44,42,93,32,40,115,101,113,32,97,110,121,32,40,116,101,115,116,32,40,112,41,41,41,41]⟩,.string ⟨#[40,106,111,105,110,32,40,112,32,120,41,32,40,110,111,116,32,40,113,32,120,41,41,41]⟩,.string ⟨#[40,97,110,100,32,40,112,32,120,32,49,47,50,41,32,40,60,61,32,120,32,40,43,32,121,32,45,50,41,41,41]⟩] 9 (0,0))):=by rw [hW1];exact new_box w _
 have B1:Below w.heap.size w W1:=by rw [hW1];exact (Below.refl _ _).alloc (Nat.le_refl _) _
 clear hW1
 have HX:Hid (∀ i (h:i<nmL.length),W1.cell? ⟨w.heap.size,i,none⟩=some (.string nmL[i])):=by
  intro i h
  rw [nmL_len] at h
  rw [Lib.cell_of_heap X1.out]
  match i,h with
  | 0,_=>rfl
  | 1,_=>rfl
  | 2,_=>rfl
  | 3,_=>rfl
  | 4,_=>rfl
  | 5,_=>rfl
  | 6,_=>rfl
  | 7,_=>rfl
  | n+8,h=>exact absurd h (by omega)
 have lX:=lt_heap X1.out
 clear X1
 go_wp2_with fail
 go_loopw [2] (fun v wr=>∃ k:Nat,k≤8∧v=.int .i64 k∧Below W1.heap.size W1 wr) (fun v _=>8 - (intOf v).toNat)
 case atStart=>exact ⟨0,by omega,rfl,Below.refl _ _⟩
 case round=>
  obtain ⟨k,hk,rfl,hB⟩:=hrel
  have BW:Below w.heap.size w wr:=B1.trans (hB.mono B1.size)
  by_cases hlt:k<8
  case neg=>
   have c2:¬ (k:Int)<8:=by omega
   go_wp2_with fail
   refine (CL.out wr BW).mono ?_
   rintro e w9 ⟨rfl,hb9⟩
   go_wp2
   go_ret
   exact ⟨rfl,BW.trans (hb9.mono BW.size)⟩
  have hlt':(k:Int)<8:=by omega
  have kx:k<nmL.length:=hlt
  obtain ⟨f,hf1,hf2,hf3⟩:=nm_all k kx
  have a0:wr.cell? ⟨w.heap.size,k,none⟩=some (.string nmL[k]):=(hB.cell (p:=⟨w.heap.size,k,none⟩) lX).trans (HX.out k kx)
  have CP1:Hid (Calls Tryz.prog 9 #[.string nmL[k]] wr (PsQ nmL[k].data.toList wr)):=CP.out nmL[k] wr BW
  have HF1:Hid (prsP nmL[k].data.toList=(some f,0,0)):=hf1
  have HS:Hid ((⟨(prtP f).toArray⟩:ByteArray)=nmL[k]):=(congrArg (fun l:List UInt8=>(⟨l.toArray⟩:ByteArray)) hf2).trans (mkD _)
  have HF3:Hid (chkF f=0):=hf3
  clear hf1 hf2 hf3
  generalize nmL[k]=S at*
  go_wp2_with fail
  refine CP1.out.mono ?_
  intro e w2 hP2
  obtain ⟨v2,rfl,⟨⟨uv,ut,us,ur⟩,rfl,hQ2⟩,hb2⟩:=psq_some hP2 HF1.out
  obtain ⟨qv,dv,qt,dt,qs,ds,qr,dr,rfl,rfl,rfl,rfl⟩:=fm_slices hQ2.at
  dsimp only
  have hB2:Below W1.heap.size W1 w2:=hB.trans (hb2.mono hB.size)
  have Q2:Hid (QAt w2 (f,(⟨.slice qv f.vars.length dv,.slice qt f.terms.length dt,.slice qs f.subs.length ds,.slice qr f.rgx.length dr⟩:FQ))):=hQ2.at
  have CQ:Hid (∀ W:World,Below w2.heap.size w2 W→Calls Tryz.prog 10 #[.agg #[.int .i64 f.k,.string f.nm,.int .i64 f.op,.slice qv f.vars.length dv,.slice qt f.terms.length dt,.int .i64 f.lo,.int .i64 f.hi,.bool f.opn,.slice qs f.subs.length ds,.slice qr f.rgx.length dr]] W fun e w'=>e=.returned (.tuple #[.string S,.int .i64 0])∧Below W.heap.size W w'):=fun W hW=>by
   have h:=print_syn f ⟨.slice qv f.vars.length dv,.slice qt f.terms.length dt,.slice qs f.subs.length ds,.slice qr f.rgx.length dr⟩ W (Q2.out.below hW) (HT.out.below (B1.trans ((hB2.trans (hW.mono hB2.size)).mono B1.size)))
   rw [HS.out,HF3.out] at h
   exact h
  have hB0:Below W1.heap.size W1 wr:=hB
  clear hQ2 hb2 hP2 CP1 Q2 HS HF1 HF3 hB
  generalize f.k=fk at*
  generalize f.nm=fnm at*
  generalize f.op=fop at*
  generalize f.lo=flo at*
  generalize f.hi=fhi at*
  generalize f.opn=fpn at*
  generalize f.vars.length=nv at*
  generalize f.terms.length=nt at*
  generalize f.subs.length=ns at*
  generalize f.rgx.length=nr at*
  go_wp2_with fail
  refine (CQ.out _ ((Below.refl w2.heap.size w2).alloc (Nat.le_refl _) _)).mono ?_
  rintro e w3 ⟨rfl,hb3⟩
  have hB3:Below W1.heap.size W1 w3:=(hB2.alloc hB2.size _).trans (hb3.mono (by have:=hB2.size;simp only [World.size_alloc];omega))
  have a3:w3.cell? ⟨w.heap.size,k,none⟩=some (.string S):=(hB3.cell (p:=⟨w.heap.size,k,none⟩) lX).trans ((Below.cell hB0 (p:=⟨w.heap.size,k,none⟩) lX).symm.trans a0)
  go_wp2
  exact ⟨⟨k+1,by omega,by go_num,hB3⟩,by simp [intOf];omega⟩
end Go.Proofs.YticnfeolbfmgfaaGreatDoor
