/- What staticAnds_holds needs besides. -/
import Derived.Test.YthodedagbbifbaaGreatStaticands01
import Derived.ProofKit
import Derived.OpenShut
import Derived.Lib.SmallJoins
import Derived.Deep.Slices
namespace Go.Proofs.YthodedagbbifbaaGreat
open Go.Joins Go.ChangeShapes Go.WideShapes Go.ChangeAt Go.RowKit Go.Deep
set_option linter.unusedVariables false
set_option maxRecDepth 100000
theorem bdsA {x:Int} (h:(Lit.int .i64 x).wf=true): -9223372036854775808≤x∧x≤9223372036854775807:=by
 simp [Lit.wf,IntKind.min,IntKind.max,IntKind.signed,IntKind.bits] at h
 omega
theorem cells3A {w:World} {a:Addr} {cs:List Value} (h:w.cells? 0 a 3=some cs):∃ c0 c1 c2,cs=[c0,c1,c2]∧w.cell? (a.add 0)=some c0∧w.cell? (a.add 1)=some c1∧w.cell? (a.add 2)=some c2:=by
 unfold World.cells? at h
 rw [if_pos (Nat.zero_le _),show List.range 3=[0,1,2] from rfl] at h
 simp only [List.mapM_cons,List.mapM_nil,Option.pure_def,Option.bind_eq_bind,Option.bind_eq_some_iff,Option.some.injEq] at h
 obtain ⟨c0,h0,r0,⟨c1,h1,r1,⟨c2,h2,r2,rfl,e2⟩,e1⟩,e0⟩:=h
 subst e2 e1 e0
 exact ⟨c0,c1,c2,rfl,h0,h1,h2⟩
theorem cells7A {w:World} {a:Addr} {cs:List Value} (h:w.cells? 0 a 7=some cs):∃ c0 c1 c2 c3 c4 c5 c6,cs=[c0,c1,c2,c3,c4,c5,c6]∧w.cell? (a.add 0)=some c0∧w.cell? (a.add 1)=some c1∧w.cell? (a.add 2)=some c2∧w.cell? (a.add 3)=some c3∧w.cell? (a.add 4)=some c4∧w.cell? (a.add 5)=some c5∧w.cell? (a.add 6)=some c6:=by
 unfold World.cells? at h
 rw [if_pos (Nat.zero_le _),show List.range 7=[0,1,2,3,4,5,6] from rfl] at h
 simp only [List.mapM_cons,List.mapM_nil,Option.pure_def,Option.bind_eq_bind,Option.bind_eq_some_iff,Option.some.injEq] at h
 obtain ⟨c0,h0,r0,⟨c1,h1,r1,⟨c2,h2,r2,⟨c3,h3,r3,⟨c4,h4,r4,⟨c5,h5,r5,⟨c6,h6,r6,rfl,e6⟩,e5⟩,e4⟩,e3⟩,e2⟩,e1⟩,e0⟩:=h
 subst e6 e5 e4 e3 e2 e1 e0
 exact ⟨c0,c1,c2,c3,c4,c5,c6,rfl,h0,h1,h2,h3,h4,h5,h6⟩
theorem cells10A {w:World} {a:Addr} {cs:List Value} (h:w.cells? 0 a 10=some cs):∃ c0 c1 c2 c3 c4 c5 c6 c7 c8 c9,cs=[c0,c1,c2,c3,c4,c5,c6,c7,c8,c9]∧w.cell? (a.add 0)=some c0∧w.cell? (a.add 1)=some c1∧w.cell? (a.add 2)=some c2∧w.cell? (a.add 3)=some c3∧w.cell? (a.add 4)=some c4∧w.cell? (a.add 5)=some c5∧w.cell? (a.add 6)=some c6∧w.cell? (a.add 7)=some c7∧w.cell? (a.add 8)=some c8∧w.cell? (a.add 9)=some c9:=by
 unfold World.cells? at h
 rw [if_pos (Nat.zero_le _),show List.range 10=[0,1,2,3,4,5,6,7,8,9] from rfl] at h
 simp only [List.mapM_cons,List.mapM_nil,Option.pure_def,Option.bind_eq_bind,Option.bind_eq_some_iff,Option.some.injEq] at h
 obtain ⟨c0,h0,r0,⟨c1,h1,r1,⟨c2,h2,r2,⟨c3,h3,r3,⟨c4,h4,r4,⟨c5,h5,r5,⟨c6,h6,r6,⟨c7,h7,r7,⟨c8,h8,r8,⟨c9,h9,r9,rfl,e9⟩,e8⟩,e7⟩,e6⟩,e5⟩,e4⟩,e3⟩,e2⟩,e1⟩,e0⟩:=h
 subst e9 e8 e7 e6 e5 e4 e3 e2 e1 e0
 exact ⟨c0,c1,c2,c3,c4,c5,c6,c7,c8,c9,rfl,h0,h1,h2,h3,h4,h5,h6,h7,h8,h9⟩
theorem row_memA {b off n:Nat} (h:0<n):MemPlace.cell b off∈MemPlace.row ⟨b,off,none⟩ n:=by
 unfold MemPlace.row
 exact List.mem_map.2 ⟨0,by simp;omega,rfl⟩
theorem choose_ltA {α:Type} [Inhabited α] {n:Nat} {R:Nat→α→Prop} (h:∀ i,i<n→∃ x,R i x):∃ f:Nat→α,∀ i,i<n→R i (f i):=
 ⟨fun i=>if hi:i<n then Classical.choose (h i hi) else default,fun i hi=>by simp only [dif_pos hi];exact Classical.choose_spec (h i hi)⟩
theorem cellsStrA:Tryz.prog.cellsOf 9=1:=by kernel_rfl
theorem cellsTmA:Tryz.prog.cellsOf 46=7:=by kernel_rfl
theorem cellsFmA:Tryz.prog.cellsOf 29=10:=by kernel_rfl
theorem cellsRxA:Tryz.prog.cellsOf 62=3:=by kernel_rfl
theorem cellsIntA:Tryz.prog.cellsOf 3=1:=by kernel_rfl
theorem cellsI64A:Tryz.prog.cellsOf 2=1:=by kernel_rfl
theorem cellsBoolA:Tryz.prog.cellsOf 4=1:=by kernel_rfl
theorem cellsValA:Tryz.prog.cellsOf 44=4:=by kernel_rfl
theorem cellsIvA:Tryz.prog.cellsOf 25=3:=by kernel_rfl
theorem cellsSA:Tryz.prog.cellsOf 22=1∧Tryz.prog.cellsOf 23=1∧Tryz.prog.cellsOf 26=1∧Tryz.prog.cellsOf 27=1:=by refine ⟨?_, ?_, ?_, ?_⟩<;>kernel_rfl
theorem open_nms {H:Type} {enc:TypeId×Value→H} {w:World} {sp:Nat→Bool} {held:Bool} {n:Nat} {v:Value} {x:DataW H×List MemPlace} (h:DataW.trod enc Tryz.prog w 0 sp held n 22 [v]=some x) (hlt:∀ y∈x.2,y.block<w.heap.size):∃ vs:List ByteArray,NmsAt w v vs:=by
 rcases open_slice Tryz.underlying22 h with ⟨hcs,hx⟩ | ⟨a,len,cap,m,n',D,Pl,hcs,hb,hl,hm,em,hx,he⟩
 ·injection hcs with hcs
  subst hcs
  exact ⟨[],by simp,none,0,rfl,by simp,Or.inl rfl⟩
 ·injection hcs with hcs
  subst hcs hx
  have hlm:len≤m:=by rw [em];split<;>omega
  have each:∀ i,i<len→∃ s:ByteArray,w.cell? (a.add i)=some (.string s):=fun i hi=>by
   obtain ⟨cs,h1,h2⟩:=he i (by omega)
   rw [cellsStrA,Nat.mul_one] at h1
   obtain ⟨s,e0,_,_⟩:=DataW.trod_string Tryz.underlying9 h2
   subst e0
   unfold World.cells? at h1
   rw [if_pos (Nat.zero_le _),show List.range 1=[0] from rfl] at h1
   simp only [List.mapM_cons,List.mapM_nil,Option.pure_def,Option.bind_eq_bind,Option.bind_eq_some_iff,Option.some.injEq] at h1
   obtain ⟨c,k1,r1,k2,k3⟩:=h1
   subst k2
   injection k3 with k3
   subst k3
   exact ⟨s,by simpa [Addr.add] using k1⟩
  haveI:Inhabited ByteArray:=⟨⟨#[]⟩⟩
  obtain ⟨f,hf⟩:=choose_ltA each
  refine ⟨(List.range len).map f,by simp;unfold maxLen at hm;omega,some a,cap,by simp,by simpa using hl, ?_⟩
  by_cases h0:len=0
  ·exact Or.inl (by simp [h0])
  ·right
   obtain ⟨b,off,spot⟩:=a
   have hspot:spot=none:=by simpa [Addr.add] using World.cell?_spot (hf 0 (by omega))
   subst hspot
   refine ⟨b,off,rfl,hlt (.cell b off) (List.mem_append_left _ (row_memA (by rw [cellsStrA];omega))),fun i hi=> ?_⟩
   have hi':i<len:=by simpa using hi
   have c0:=hf i hi'
   simp only [add_plain] at c0
   simp only [List.getElem_map,List.getElem_range]
   exact c0
theorem open_tmc {H:Type} {enc:TypeId×Value→H} {w:World} {sp:Nat→Bool} {held:Bool} {n:Nat} {c0 c1 c2 c3 c4 c5 c6:Value} {x:DataW H×List MemPlace} (h:DataW.trod enc Tryz.prog w 0 sp held n 46 [c0,c1,c2,c3,c4,c5,c6]=some x) (hlt:∀ y∈x.2,y.block<w.heap.size)
  (ih:∀ (n:Nat) (v:Value) (z:DataW H×List MemPlace),SizeOf.sizeOf z.1<SizeOf.sizeOf x.1→DataW.trod enc Tryz.prog w 0 sp held n 23 [v]=some z→(∀ y∈z.2,y.block<w.heap.size)→∃ ts,TmsAt w v ts):
  ∃ t:Tm,c0=.int .i64 t.k∧c1=.string t.nm∧c2=.int .i64 t.v.k∧c3=.int .i64 t.v.n∧c4=.int .i64 t.v.d∧c5=.string t.v.s∧TmsAt w c6 t.subs∧t.v.Fits:=by
 obtain ⟨y0,y1,y2,y3,m,ex,_,t0,t1,t2,t3⟩:=trod_struct4 Tryz.underlying46 h
 simp [cellsIntA,cellsStrA,cellsValA,cellsSA] at t0 t1 t2 t3
 obtain ⟨k,e0,_,w0⟩:=DataW.trod_int Tryz.underlying3 t0
 obtain ⟨s,e1,_,_⟩:=DataW.trod_string Tryz.underlying9 t1
 obtain ⟨z0,z1,z2,z3,m',_,_,u0,u1,u2,u3⟩:=trod_struct4 Tryz.underlying44 t2
 simp [cellsIntA,cellsStrA,cellsI64A] at u0 u1 u2 u3
 obtain ⟨vk,f0,_,_⟩:=DataW.trod_int Tryz.underlying3 u0
 obtain ⟨vn,f1,_,w1⟩:=DataW.trod_int Tryz.underlying2 u1
 obtain ⟨vd,f2,_,w2⟩:=DataW.trod_int Tryz.underlying2 u2
 obtain ⟨vs,f3,_,_⟩:=DataW.trod_string Tryz.underlying9 u3
 simp at e0 e1 f0 f1 f2 f3
 subst e0 e1 f0 f1 f2 f3
 obtain ⟨ts,hts⟩:=ih _ _ y3 (by rw [ex];simp;omega) t3 (fun y hy=>hlt y (by rw [ex];simp [hy]))
 exact ⟨.mk k s ⟨vk,vn,vd,vs⟩ ts,rfl,rfl,rfl,rfl,rfl,rfl,hts,⟨(bdsA w1).1,(bdsA w1).2,(bdsA w2).1,(bdsA w2).2⟩⟩
instance :Inhabited Tm:=⟨.mk 0 ⟨#[]⟩ ⟨0,0,0,⟨#[]⟩⟩ []⟩
theorem open_tms {H:Type} {enc:TypeId×Value→H} {w:World} {sp:Nat→Bool} {held:Bool}:∀ (M n:Nat) (v:Value) (x:DataW H×List MemPlace),SizeOf.sizeOf x.1<M→DataW.trod enc Tryz.prog w 0 sp held n 23 [v]=some x→(∀ y∈x.2,y.block<w.heap.size)→∃ ts:List Tm,TmsAt w v ts:=by
 intro M
 induction M with
 | zero=>intro n v x hM;omega
 | succ M ih=>
  intro n v x hM h hlt
  rcases open_slice Tryz.underlying23 h with ⟨hcs,hx⟩ | ⟨a,len,cap,m,n',D,Pl,hcs,hb,hl,hm,em,hx,he⟩
  ·injection hcs with hcs
   subst hcs
   exact ⟨[],.nil⟩
  ·injection hcs with hcs
   subst hcs hx
   have hlm:len≤m:=by rw [em];split<;>omega
   have hD:∀ i,i<len→SizeOf.sizeOf (D i)<M:=fun i hi=>by
    have h1:SizeOf.sizeOf (D i)<SizeOf.sizeOf ((List.range len).map D):=List.sizeOf_lt_of_mem (List.mem_map.2 ⟨i,List.mem_range.2 hi,rfl⟩)
    simp at hM
    omega
   by_cases h0:len=0
   ·subst h0
    exact ⟨[],.nil⟩
   obtain ⟨b,off,spot⟩:=a
   have hspot:spot=none:=by
    obtain ⟨cs,h1, -⟩:=he 0 (by omega)
    rw [cellsTmA] at h1
    obtain ⟨c0,c1,c2,c3,c4,c5,c6,rfl,k0, -⟩:=cells7A h1
    simpa [Addr.add] using World.cell?_spot k0
   subst hspot
   have each:∀ i,i<len→∃ tu:Tm×Value,TmC w b (off+i*7) tu.1 tu.2∧TmsAt w tu.2 tu.1.subs∧tu.1.v.Fits:=fun i hi=>by
    obtain ⟨cs,h1,h2⟩:=he i (by omega)
    rw [cellsTmA] at h1
    obtain ⟨c0,c1,c2,c3,c4,c5,c6,rfl,k0,k1,k2,k3,k4,k5,k6⟩:=cells7A h1
    obtain ⟨t,rfl,rfl,rfl,rfl,rfl,rfl,hs,hf⟩:=open_tmc h2 (fun y hy=>hlt y (List.mem_append_right _ (List.mem_flatMap.2 ⟨i,List.mem_range.2 (by omega),hy⟩))) (fun n v z hz=>ih n v z (by have:=hD i hi;have hz':SizeOf.sizeOf z.1<SizeOf.sizeOf (D i):=hz;omega))
    simp only [add_plain,Nat.add_zero] at k0 k1 k2 k3 k4 k5 k6
    exact ⟨(t,c6),⟨k0,k1,k2,k3,k4,k5,k6⟩,hs,hf⟩
   haveI:Inhabited (Tm×Value):=⟨(default,.bool false)⟩
   obtain ⟨f,hf⟩:=choose_ltA each
   ·refine ⟨(List.range len).map fun i=>(f i).1, ?_⟩
    have hlen:((List.range len).map fun i=>(f i).1).length=len:=by simp
    have hlt0:b<w.heap.size:=hlt (.cell b off) (List.mem_append_left _ (row_memA (by rw [cellsTmA];omega)))
    have R:TmsAt w (.slice (some ⟨b,off,none⟩) ((List.range len).map fun i=>(f i).1).length cap) ((List.range len).map fun i=>(f i).1):=by
     refine .row (fun i=>(f i).2) (by rw [hlen];unfold maxLen at hm;omega) (fun i hi=> ?_) (by rw [hlen];exact hl) hlt0 (fun i hi=> ?_) (fun i hi=> ?_)<;>
      (have hi':i<len:=by simpa using hi)<;>simp only [List.getElem_map,List.getElem_range]
     ·exact (hf i hi').2.2
     ·exact (hf i hi').1
     ·exact (hf i hi').2.1
    rwa [hlen] at R
theorem trod_struct8 {H:Type} {enc:TypeId×Value→H} {w:World} {sp:Nat→Bool} {held:Bool} {P:Program} {base:Nat} {t:TypeId} {f0 f1 f2 f3 f4 f5 f6 f7:Field} {fuel:Nat} {cs:List Value} {x:DataW H×List MemPlace} (ht:P.underlying t=some (.struct #[f0,f1,f2,f3,f4,f5,f6,f7])) (h:DataW.trod enc P w base sp held fuel t cs=some x):
  ∃ y0 y1 y2 y3 y4 y5 y6 y7 n,x=(.agg [y0.1,y1.1,y2.1,y3.1,y4.1,y5.1,y6.1,y7.1],y0.2++(y1.2++(y2.2++(y3.2++(y4.2++(y5.2++(y6.2++y7.2)))))))∧DataW.trod enc P w base sp held n f0.type ((cs.drop f0.offset).take (P.cellsOf f0.type))=some y0∧DataW.trod enc P w base sp held n f1.type ((cs.drop f1.offset).take (P.cellsOf f1.type))=some y1∧DataW.trod enc P w base sp held n f2.type ((cs.drop f2.offset).take (P.cellsOf f2.type))=some y2∧DataW.trod enc P w base sp held n f3.type ((cs.drop f3.offset).take (P.cellsOf f3.type))=some y3∧DataW.trod enc P w base sp held n f4.type ((cs.drop f4.offset).take (P.cellsOf f4.type))=some y4∧DataW.trod enc P w base sp held n f5.type ((cs.drop f5.offset).take (P.cellsOf f5.type))=some y5∧DataW.trod enc P w base sp held n f6.type ((cs.drop f6.offset).take (P.cellsOf f6.type))=some y6∧DataW.trod enc P w base sp held n f7.type ((cs.drop f7.offset).take (P.cellsOf f7.type))=some y7:=by
 obtain ⟨xs,n,_,rfl,hl,hlen,hf⟩:=DataW.trod_struct ht h
 match xs,hlen with
 | [y0,y1,y2,y3,y4,y5,y6,y7],_=>exact ⟨y0,y1,y2,y3,y4,y5,y6,y7,n,by simp,by simpa using hf 0 f0 rfl,by simpa using hf 1 f1 rfl,by simpa using hf 2 f2 rfl,by simpa using hf 3 f3 rfl,by simpa using hf 4 f4 rfl,by simpa using hf 5 f5 rfl,by simpa using hf 6 f6 rfl,by simpa using hf 7 f7 rfl⟩
theorem open_fmc {H:Type} {enc:TypeId×Value→H} {w:World} {sp:Nat→Bool} {held:Bool} {n:Nat} {c0 c1 c2 c3 c4 c5 c6 c7 c8 c9:Value} {x:DataW H×List MemPlace} (h:DataW.trod enc Tryz.prog w 0 sp held n 29 [c0,c1,c2,c3,c4,c5,c6,c7,c8,c9]=some x) (hlt:∀ y∈x.2,y.block<w.heap.size)
  (ihF:∀ (n:Nat) (v:Value) (z:DataW H×List MemPlace),SizeOf.sizeOf z.1<SizeOf.sizeOf x.1→DataW.trod enc Tryz.prog w 0 sp held n 26 [v]=some z→(∀ y∈z.2,y.block<w.heap.size)→∃ fs,FmsAt w v fs)
  (ihR:∀ (n:Nat) (v:Value) (z:DataW H×List MemPlace),SizeOf.sizeOf z.1<SizeOf.sizeOf x.1→DataW.trod enc Tryz.prog w 0 sp held n 27 [v]=some z→(∀ y∈z.2,y.block<w.heap.size)→∃ rs,RxsAt w v rs):
  ∃ f:Fm,c0=.int .i64 f.k∧c1=.string f.nm∧c2=.int .i64 f.op∧c5=.int .i64 f.lo∧c6=.int .i64 f.hi∧c7=.bool f.opn∧NmsAt w c3 f.vars∧TmsAt w c4 f.terms∧FmsAt w c8 f.subs∧RxsAt w c9 f.rgx:=by
 obtain ⟨y0,y1,y2,y3,y4,y5,y6,y7,m,ex,t0,t1,t2,t3,t4,t5,t6,t7⟩:=trod_struct8 Tryz.underlying29 h
 simp [cellsIntA,cellsStrA,cellsIvA,cellsSA] at t0 t1 t2 t3 t4 t5 t6 t7
 obtain ⟨k,e0,_,w0⟩:=DataW.trod_int Tryz.underlying3 t0
 obtain ⟨s,e1,_,_⟩:=DataW.trod_string Tryz.underlying9 t1
 obtain ⟨op,e2,_,_⟩:=DataW.trod_int Tryz.underlying3 t2
 obtain ⟨z0,z1,z2,m',_,_,u0,u1,u2⟩:=trod_struct3 Tryz.underlying25 t5
 simp [cellsBoolA,cellsI64A] at u0 u1 u2
 obtain ⟨lo,f0,_,_⟩:=DataW.trod_int Tryz.underlying2 u0
 obtain ⟨hi,f1,_,_⟩:=DataW.trod_int Tryz.underlying2 u1
 obtain ⟨o,f2,_⟩:=DataW.trod_bool Tryz.underlying4 u2
 simp at e0 e1 e2 f0 f1 f2
 subst e0 e1 e2 f0 f1 f2
 obtain ⟨vs,hvs⟩:=open_nms t3 (fun y hy=>hlt y (by rw [ex];simp [hy]))
 obtain ⟨ts,hts⟩:=open_tms _ _ _ y4 (Nat.lt_succ_self _) t4 (fun y hy=>hlt y (by rw [ex];simp [hy]))
 obtain ⟨fs,hfs⟩:=ihF _ _ y6 (by rw [ex];simp;omega) t6 (fun y hy=>hlt y (by rw [ex];simp [hy]))
 obtain ⟨rs,hrs⟩:=ihR _ _ y7 (by rw [ex];simp;omega) t7 (fun y hy=>hlt y (by rw [ex];simp [hy]))
 exact ⟨.mk k s op vs ts lo hi o fs rs,rfl,rfl,rfl,rfl,rfl,rfl,hvs,hts,hfs,hrs⟩
theorem open_rxc {H:Type} {enc:TypeId×Value→H} {w:World} {sp:Nat→Bool} {held:Bool} {n:Nat} {c0 c1 c2:Value} {x:DataW H×List MemPlace} (h:DataW.trod enc Tryz.prog w 0 sp held n 62 [c0,c1,c2]=some x) (hlt:∀ y∈x.2,y.block<w.heap.size)
  (ihF:∀ (n:Nat) (v:Value) (z:DataW H×List MemPlace),SizeOf.sizeOf z.1<SizeOf.sizeOf x.1→DataW.trod enc Tryz.prog w 0 sp held n 26 [v]=some z→(∀ y∈z.2,y.block<w.heap.size)→∃ fs,FmsAt w v fs)
  (ihR:∀ (n:Nat) (v:Value) (z:DataW H×List MemPlace),SizeOf.sizeOf z.1<SizeOf.sizeOf x.1→DataW.trod enc Tryz.prog w 0 sp held n 27 [v]=some z→(∀ y∈z.2,y.block<w.heap.size)→∃ rs,RxsAt w v rs):
  ∃ r:Rx,c0=.int .i64 r.k∧FmsAt w c1 r.test∧RxsAt w c2 r.subs:=by
 obtain ⟨y0,y1,y2,m,ex,_,t0,t1,t2⟩:=trod_struct3 Tryz.underlying62 h
 simp [cellsIntA,cellsSA] at t0 t1 t2
 obtain ⟨k,e0,_,w0⟩:=DataW.trod_int Tryz.underlying3 t0
 simp at e0
 subst e0
 obtain ⟨fs,hfs⟩:=ihF _ _ y1 (by rw [ex];simp;omega) t1 (fun y hy=>hlt y (by rw [ex];simp [hy]))
 obtain ⟨rs,hrs⟩:=ihR _ _ y2 (by rw [ex];simp;omega) t2 (fun y hy=>hlt y (by rw [ex];simp [hy]))
 exact ⟨.mk k fs rs,rfl,hfs,hrs⟩
instance :Inhabited Fm:=⟨.mk 0 ⟨#[]⟩ 0 [] [] 0 0 false [] []⟩
instance :Inhabited Rx:=⟨.mk 0 [] []⟩
theorem open_both {H:Type} {enc:TypeId×Value→H} {w:World} {sp:Nat→Bool} {held:Bool}:∀ M:Nat,(∀ (n:Nat) (v:Value) (x:DataW H×List MemPlace),SizeOf.sizeOf x.1<M→DataW.trod enc Tryz.prog w 0 sp held n 26 [v]=some x→(∀ y∈x.2,y.block<w.heap.size)→∃ fs:List Fm,FmsAt w v fs)∧(∀ (n:Nat) (v:Value) (x:DataW H×List MemPlace),SizeOf.sizeOf x.1<M→DataW.trod enc Tryz.prog w 0 sp held n 27 [v]=some x→(∀ y∈x.2,y.block<w.heap.size)→∃ rs:List Rx,RxsAt w v rs):=by
 intro M
 induction M with
 | zero=>exact ⟨fun n v x hM=>by omega,fun n v x hM=>by omega⟩
 | succ M ih=>
  refine ⟨fun n v x hM h hlt=> ?_,fun n v x hM h hlt=> ?_⟩
  ·rcases open_slice Tryz.underlying26 h with ⟨hcs,hx⟩ | ⟨a,len,cap,m,n',D,Pl,hcs,hb,hl,hm,em,hx,he⟩
   ·injection hcs with hcs
    subst hcs
    exact ⟨[],.nil⟩
   ·injection hcs with hcs
    subst hcs hx
    have hlm:len≤m:=by rw [em];split<;>omega
    have hD:∀ i,i<len→SizeOf.sizeOf (D i)<M:=fun i hi=>by
     have h1:SizeOf.sizeOf (D i)<SizeOf.sizeOf ((List.range len).map D):=List.sizeOf_lt_of_mem (List.mem_map.2 ⟨i,List.mem_range.2 hi,rfl⟩)
     simp at hM
     omega
    by_cases h0:len=0
    ·subst h0
     exact ⟨[],.nil⟩
    obtain ⟨b,off,spot⟩:=a
    have hspot:spot=none:=by
     obtain ⟨cs,h1, -⟩:=he 0 (by omega)
     rw [cellsFmA] at h1
     obtain ⟨c0,c1,c2,c3,c4,c5,c6,c7,c8,c9,rfl,k0, -⟩:=cells10A h1
     simpa [Addr.add] using World.cell?_spot k0
    subst hspot
    have each:∀ i,i<len→∃ tu:Fm×(Value×Value×Value×Value),FmC w b (off+i*10) tu.1 tu.2.1 tu.2.2.1 tu.2.2.2.1 tu.2.2.2.2∧NmsAt w tu.2.1 tu.1.vars∧TmsAt w tu.2.2.1 tu.1.terms∧FmsAt w tu.2.2.2.1 tu.1.subs∧RxsAt w tu.2.2.2.2 tu.1.rgx:=fun i hi=>by
     obtain ⟨cs,h1,h2⟩:=he i (by omega)
     rw [cellsFmA] at h1
     obtain ⟨c0,c1,c2,c3,c4,c5,c6,c7,c8,c9,rfl,k0,k1,k2,k3,k4,k5,k6,k7,k8,k9⟩:=cells10A h1
     obtain ⟨t,rfl,rfl,rfl,rfl,rfl,rfl,g1,g2,g3,g4⟩:=open_fmc h2 (fun y hy=>hlt y (List.mem_append_right _ (List.mem_flatMap.2 ⟨i,List.mem_range.2 (by omega),hy⟩))) (fun n v z hz=>ih.1 n v z (by have:=hD i hi;have hz':SizeOf.sizeOf z.1<SizeOf.sizeOf (D i):=hz;omega)) (fun n v z hz=>ih.2 n v z (by have:=hD i hi;have hz':SizeOf.sizeOf z.1<SizeOf.sizeOf (D i):=hz;omega))
     simp only [add_plain,Nat.add_zero] at k0 k1 k2 k3 k4 k5 k6 k7 k8 k9
     exact ⟨(t,c3,c4,c8,c9),⟨k0,k1,k2,k3,k4,k5,k6,k7,k8,k9⟩,g1,g2,g3,g4⟩
    haveI:Inhabited (Fm×(Value×Value×Value×Value)):=⟨(default,.bool false,.bool false,.bool false,.bool false)⟩
    obtain ⟨f,hf⟩:=choose_ltA each
    ·refine ⟨(List.range len).map fun i=>(f i).1, ?_⟩
     have hlen:((List.range len).map fun i=>(f i).1).length=len:=by simp
     have hlt0:b<w.heap.size:=hlt (.cell b off) (List.mem_append_left _ (row_memA (by rw [cellsFmA];omega)))
     have R:FmsAt w (.slice (some ⟨b,off,none⟩) ((List.range len).map fun i=>(f i).1).length cap) ((List.range len).map fun i=>(f i).1):=by
      refine .row (fun i=>(f i).2.1) (fun i=>(f i).2.2.1) (fun i=>(f i).2.2.2.1) (fun i=>(f i).2.2.2.2) (by rw [hlen];unfold maxLen at hm;omega) (by rw [hlen];exact hl) hlt0 (fun i hi=> ?_) (fun i hi=> ?_) (fun i hi=> ?_) (fun i hi=> ?_) (fun i hi=> ?_)<;>
       (have hi':i<len:=by simpa using hi)<;>simp only [List.getElem_map,List.getElem_range]
      ·exact (hf i hi').1
      ·exact (hf i hi').2.1
      ·exact (hf i hi').2.2.1
      ·exact (hf i hi').2.2.2.1
      ·exact (hf i hi').2.2.2.2
     rwa [hlen] at R
  ·rcases open_slice Tryz.underlying27 h with ⟨hcs,hx⟩ | ⟨a,len,cap,m,n',D,Pl,hcs,hb,hl,hm,em,hx,he⟩
   ·injection hcs with hcs
    subst hcs
    exact ⟨[],.nil⟩
   ·injection hcs with hcs
    subst hcs hx
    have hlm:len≤m:=by rw [em];split<;>omega
    have hD:∀ i,i<len→SizeOf.sizeOf (D i)<M:=fun i hi=>by
     have h1:SizeOf.sizeOf (D i)<SizeOf.sizeOf ((List.range len).map D):=List.sizeOf_lt_of_mem (List.mem_map.2 ⟨i,List.mem_range.2 hi,rfl⟩)
     simp at hM
     omega
    by_cases h0:len=0
    ·subst h0
     exact ⟨[],.nil⟩
    obtain ⟨b,off,spot⟩:=a
    have hspot:spot=none:=by
     obtain ⟨cs,h1, -⟩:=he 0 (by omega)
     rw [cellsRxA] at h1
     obtain ⟨c0,c1,c2,rfl,k0, -⟩:=cells3A h1
     simpa [Addr.add] using World.cell?_spot k0
    subst hspot
    have each:∀ i,i<len→∃ tu:Rx×(Value×Value),RxC w b (off+i*3) tu.1 tu.2.1 tu.2.2∧FmsAt w tu.2.1 tu.1.test∧RxsAt w tu.2.2 tu.1.subs:=fun i hi=>by
     obtain ⟨cs,h1,h2⟩:=he i (by omega)
     rw [cellsRxA] at h1
     obtain ⟨c0,c1,c2,rfl,k0,k1,k2⟩:=cells3A h1
     obtain ⟨t,rfl,g1,g2⟩:=open_rxc h2 (fun y hy=>hlt y (List.mem_append_right _ (List.mem_flatMap.2 ⟨i,List.mem_range.2 (by omega),hy⟩))) (fun n v z hz=>ih.1 n v z (by have:=hD i hi;have hz':SizeOf.sizeOf z.1<SizeOf.sizeOf (D i):=hz;omega)) (fun n v z hz=>ih.2 n v z (by have:=hD i hi;have hz':SizeOf.sizeOf z.1<SizeOf.sizeOf (D i):=hz;omega))
     simp only [add_plain,Nat.add_zero] at k0 k1 k2
     exact ⟨(t,c1,c2),⟨k0,k1,k2⟩,g1,g2⟩
    haveI:Inhabited (Rx×(Value×Value)):=⟨(default,.bool false,.bool false)⟩
    obtain ⟨f,hf⟩:=choose_ltA each
    ·refine ⟨(List.range len).map fun i=>(f i).1, ?_⟩
     have hlen:((List.range len).map fun i=>(f i).1).length=len:=by simp
     have hlt0:b<w.heap.size:=hlt (.cell b off) (List.mem_append_left _ (row_memA (by rw [cellsRxA];omega)))
     have R:RxsAt w (.slice (some ⟨b,off,none⟩) ((List.range len).map fun i=>(f i).1).length cap) ((List.range len).map fun i=>(f i).1):=by
      refine .row (fun i=>(f i).2.1) (fun i=>(f i).2.2) (by rw [hlen];unfold maxLen at hm;omega) (by rw [hlen];exact hl) hlt0 (fun i hi=> ?_) (fun i hi=> ?_) (fun i hi=> ?_)<;>
       (have hi':i<len:=by simpa using hi)<;>simp only [List.getElem_map,List.getElem_range]
      ·exact (hf i hi').1
      ·exact (hf i hi').2.1
      ·exact (hf i hi').2.2
     rwa [hlen] at R
theorem array10 {α:Type} {cs:Array α} (h:cs.size=10):∃ c0 c1 c2 c3 c4 c5 c6 c7 c8 c9,cs=#[c0,c1,c2,c3,c4,c5,c6,c7,c8,c9]:=by
 obtain ⟨l⟩:=cs
 match l,h with
 | [c0,c1,c2,c3,c4,c5,c6,c7,c8,c9],_=>exact ⟨c0,c1,c2,c3,c4,c5,c6,c7,c8,c9,rfl⟩
theorem open_fm {H:Type} {enc:TypeId×Value→H} {W:World} {r:Reach} {b0:Nat} {v:Value} {d:DataW H} {p:List MemPlace} (hv:Value.okWide Tryz.prog W r b0 29 v) (h:DataW.Trod enc Tryz.prog W 0 (fun _=>true) true 29 v d p) (hlt:∀ y∈p,y.block<W.heap.size):∃ f:Fm,FmAt W v f:=by
 obtain ⟨cs,rfl,hsz⟩:=okWide_struct Tryz.underlying29 hv
 obtain ⟨c0,c1,c2,c3,c4,c5,c6,c7,c8,c9,rfl⟩:=array10 (hsz.trans cellsFmA)
 obtain ⟨fuel,hf⟩:=h
 obtain ⟨f,rfl,rfl,rfl,rfl,rfl,rfl,g1,g2,g3,g4⟩:=open_fmc (x:=(d,p)) hf hlt (fun n v z _=>(open_both _).1 n v z (Nat.lt_succ_self _)) (fun n v z _=>(open_both _).2 n v z (Nat.lt_succ_self _))
 exact ⟨f,c3,c4,c8,c9,rfl,g1,g2,g3,g4⟩
end Go.Proofs.YthodedagbbifbaaGreat
