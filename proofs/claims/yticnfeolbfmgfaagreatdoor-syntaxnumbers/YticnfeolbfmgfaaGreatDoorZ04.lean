/- What the claims of this seat share: base. -/
import Derived.Test.YticnfeolbfmgfaaGreatDoorZ03
import Derived.Shelf.SlGeneric
import Derived.Ground.Names8Prog
import Derived.Shelf.Spec.SlicesGrow
import Derived.Lib.OwnBridge
import Derived.Lib.RowBridge
import Derived.Deep.RegionWith
set_option maxRecDepth 100000
set_option maxHeartbeats 8000000
namespace Go.Proofs.YticnfeolbfmgfaaGreatDoor
open Go.RowKit LX Go.Shelf
set_option linter.unusedVariables false
theorem eachT_any (xs:List Tm) (V:Value) (w:World) (hV:TmsAt w V xs) (hn:xs.length≤1000000000) (HC:∀ i (hi:i<xs.length) (u:Value) (W:World),Below w.heap.size w W→TmsAt w u xs[i].subs→Calls Tryz.prog 40 #[.agg #[.int .i64 xs[i].k,.string xs[i].nm,.int .i64 xs[i].v.k,.int .i64 xs[i].v.n,.int .i64 xs[i].v.d,.string xs[i].v.s,u]] W fun e w'=>e=.returned (.string ⟨(txT xs[i]).toArray⟩)∧Below W.heap.size W w'):
  Calls Tryz.prog 39 #[V,.func (.func 40) #[] #[]] w fun e w'=>∃ v,e=.returned v∧OwnN w.heap.size v (xs.map fun x=>⟨(txT x).toArray⟩) w'∧Below w.heap.size w w':=by
 obtain ⟨i0,hi,hz0,hz1,hz2⟩:=info_parts inStA
 obtain ⟨p,c,rfl,hl,hc,HX0⟩:=hV.form
 have HX:Hid (∀ i (hi:i<xs.length),∃ b off u,p=some ⟨b,off,none⟩∧b<w.heap.size∧TmC w b (off+i*7) xs[i] u∧TmsAt w u xs[i].subs∧xs[i].v.Fits):=HX0
 have HC9:Hid (∀ i (hi:i<xs.length) (u:Value) (W:World),Below w.heap.size w W→TmsAt w u xs[i].subs→Calls Tryz.prog 40 #[.agg #[.int .i64 xs[i].k,.string xs[i].nm,.int .i64 xs[i].v.k,.int .i64 xs[i].v.n,.int .i64 xs[i].v.d,.string xs[i].v.s,u]] W fun e w'=>e=.returned (.string ⟨(txT xs[i]).toArray⟩)∧Below W.heap.size W w'):=HC
 clear HX0 hV HC
 obtain ⟨n,en⟩:∃ n:Nat,Hid (xs.length=n):=⟨_,rfl⟩
 obtain ⟨RS,eRS⟩:∃ L:List ByteArray,Hid ((xs.map fun x=>⟨(txT x).toArray⟩)=L):=⟨_,rfl⟩
 rw [eRS.out]
 rw [en.out] at hn hl hc ⊢
 go_enter Tryz.func39,Tryz.ntmps39
 go_wp2
 go_loopw [5,10] (fun v5 v wr=>∃ (k:Nat) (L:List ByteArray),k≤n∧v=.int .i64 k∧L.length≤k∧Hid (L=(xs.take k).map fun x=>⟨(txT x).toArray⟩)∧Below w.heap.size w wr∧Hid (OwnN w.heap.size v5 L wr)) (fun _ v _=>n - (intOf v).toNat)
 case atStart=>exact ⟨0,[],Nat.zero_le _,rfl,Nat.le_refl _,(by show _=_;simp),Below.refl _ _,OwnN.nil _ _⟩
 case round=>
  obtain ⟨k,L,hk,rfl,hLk,hF,hB,hO⟩:=hrel
  have hsz:=hB.size
  have HK:Hid (∀ q,u5.ownBlock=some q→w.heap.size≤q):=fun q hq=>(World.ownsRow.lt hO.out q hq).1
  by_cases hlt:k<n
  case neg=>
   have c2:¬ (k:Int)<n:=by omega
   have hF2:Hid (RS=L):=by
    have h:=hF.out
    rw [List.take_of_length_le (by have:=en.out;omega)] at h
    exact eRS.out.symm.trans h.symm
   go_wp2
   go_ret
   rw [hF2.out]
   exact ⟨_,rfl,hO.out,hB⟩
  have hlt':(k:Int)<n:=by omega
  have kx:k<xs.length:=by have:=en.out;omega
  obtain ⟨b,off,u,rfl,hb,TC,Nu, -⟩:=HX.out k kx
  obtain ⟨a0,a1,a2,a3,a4,a5,a6⟩:=TC.below hB hb
  have hF3:Hid (L++[⟨(txT xs[k]).toArray⟩]=(xs.take (k+1)).map fun x=>⟨(txT x).toArray⟩):=by
   have h:=hF.out
   unfold Hid
   rw [List.take_succ_eq_append_getElem kx,List.map_append,← h]
   rfl
  have cK:Hid (∀ (W:World),Below w.heap.size w W→Calls Tryz.prog 40 #[.agg #[.int .i64 xs[k].k,.string xs[k].nm,.int .i64 xs[k].v.k,.int .i64 xs[k].v.n,.int .i64 xs[k].v.d,.string xs[k].v.s,u]] W fun e w'=>e=.returned (.string ⟨(txT xs[k]).toArray⟩)∧Below W.heap.size W w'):=fun W hW=>HC9.out k kx u W hW Nu
  clear hF TC
  obtain ⟨pu,cu,rfl, -⟩:=Nu.form
  generalize (⟨(txT xs[k]).toArray⟩:ByteArray)=S at*
  generalize xs[k]=x at*
  generalize x.subs.length=nu at*
  generalize x.v.k=vk at*
  generalize x.v.n=vn at*
  generalize x.v.d=vd at*
  generalize x.v.s=vs at*
  generalize x.nm=nm at*
  generalize x.k=kk at*
  obtain ⟨p5,c5,rfl⟩:∃ p5 c5,u5=.slice p5 L.length c5:=by obtain ⟨p5,c5,h, -⟩:=hO.out.cap;exact ⟨p5,c5,h⟩
  go_wp2_with fail
  refine (cK.out _ (hB.alloc hsz _)).mono ?_
  rintro e w1 ⟨rfl,hb1⟩
  have hB1:Below w.heap.size w w1:=(hB.alloc hsz _).trans (hb1.mono (by simp;omega))
  have hO1:Hid (OwnN w.heap.size (.slice p5 L.length c5) L w1):=OwnN.bel (OwnN.bel hO.out ((Below.refl _ _).alloc (Nat.le_refl _) _)) hb1
  have HK1:=hB1.size
  clear hb1 hO hB cK hsz
  go_wp2_with (at_builtin;refine wpList_append_own _ rfl _ _ 22 rfl w.heap.size 9 i0 (.string ByteArray.empty) 1 16 Tryz.underlying22 hi hz0 hz1 hz2 rfl (by decide) _ _ _ rfl (World.ownsRow.alloc hO1.out _) ⟨w1.heap.size,0,none⟩ 1 1 [.string S] rfl rfl ?cc1 ?cc2 ?cc3 ?cc4 ?cc5 ?_)
  case cc1=>(intro j u hj;rw [Addr.add_lit];(rcases j with _ | j)<;>simp at hj<;>subst hj<;>simp (maxDischargeDepth:=12) [go_sem])
  case cc2=>(intro u hu;simp at hu;subst hu;rfl)
  case cc3=>unfold maxLen;omega
  case cc4=>omega
  case cc5=>first | omega | (simp;omega)
  intro v' w3 h2 h3 _
  have O3:Hid (OwnN w.heap.size v' (L++[S]) w3):=by
   show w3.ownsRow _ _ _ _ _ _
   rw [List.length_append,List.map_append]
   exact h2
  have B3:Below w.heap.size w w3:=Below.grown (hB1.alloc HK1 _) h3 (by simp;omega) HK.out
  clear h2 h3 HK hO1
  go_wp2
  exact ⟨⟨k+1,L++[S],by omega,by go_num,by simp;omega,hF3,B3,O3⟩,by simp [intOf];omega⟩
theorem eachR_any (xs:List Rx) (V:Value) (w:World) (hV:RxsAt w V xs) (hn:xs.length≤1000000000) (HC:∀ i (hi:i<xs.length) (ut us:Value) (W:World),Below w.heap.size w W→FmsAt w ut xs[i].test→RxsAt w us xs[i].subs→Calls Tryz.prog 42 #[.agg #[.int .i64 xs[i].k,ut,us]] W fun e w'=>e=.returned (.string ⟨(txR xs[i]).toArray⟩)∧Below W.heap.size W w'):
  Calls Tryz.prog 41 #[V,.func (.func 42) #[] #[]] w fun e w'=>∃ v,e=.returned v∧OwnN w.heap.size v (xs.map fun x=>⟨(txR x).toArray⟩) w'∧Below w.heap.size w w':=by
 obtain ⟨i0,hi,hz0,hz1,hz2⟩:=info_parts inStA
 obtain ⟨p,c,rfl,hl,hc,HX0⟩:=hV.form
 have HX:Hid (∀ i (hi:i<xs.length),∃ b off ut us,p=some ⟨b,off,none⟩∧b<w.heap.size∧RxC w b (off+i*3) xs[i] ut us∧FmsAt w ut xs[i].test∧RxsAt w us xs[i].subs):=HX0
 have HC9:Hid (∀ i (hi:i<xs.length) (ut us:Value) (W:World),Below w.heap.size w W→FmsAt w ut xs[i].test→RxsAt w us xs[i].subs→Calls Tryz.prog 42 #[.agg #[.int .i64 xs[i].k,ut,us]] W fun e w'=>e=.returned (.string ⟨(txR xs[i]).toArray⟩)∧Below W.heap.size W w'):=HC
 clear HX0 hV HC
 obtain ⟨n,en⟩:∃ n:Nat,Hid (xs.length=n):=⟨_,rfl⟩
 obtain ⟨RS,eRS⟩:∃ L:List ByteArray,Hid ((xs.map fun x=>⟨(txR x).toArray⟩)=L):=⟨_,rfl⟩
 rw [eRS.out]
 rw [en.out] at hn hl hc ⊢
 go_enter Tryz.func41,Tryz.ntmps41
 go_wp2
 go_loopw [5,10] (fun v5 v wr=>∃ (k:Nat) (L:List ByteArray),k≤n∧v=.int .i64 k∧L.length≤k∧Hid (L=(xs.take k).map fun x=>⟨(txR x).toArray⟩)∧Below w.heap.size w wr∧Hid (OwnN w.heap.size v5 L wr)) (fun _ v _=>n - (intOf v).toNat)
 case atStart=>exact ⟨0,[],Nat.zero_le _,rfl,Nat.le_refl _,(by show _=_;simp),Below.refl _ _,OwnN.nil _ _⟩
 case round=>
  obtain ⟨k,L,hk,rfl,hLk,hF,hB,hO⟩:=hrel
  have hsz:=hB.size
  have HK:Hid (∀ q,u5.ownBlock=some q→w.heap.size≤q):=fun q hq=>(World.ownsRow.lt hO.out q hq).1
  by_cases hlt:k<n
  case neg=>
   have c2:¬ (k:Int)<n:=by omega
   have hF2:Hid (RS=L):=by
    have h:=hF.out
    rw [List.take_of_length_le (by have:=en.out;omega)] at h
    exact eRS.out.symm.trans h.symm
   go_wp2
   go_ret
   rw [hF2.out]
   exact ⟨_,rfl,hO.out,hB⟩
  have hlt':(k:Int)<n:=by omega
  have kx:k<xs.length:=by have:=en.out;omega
  obtain ⟨b,off,ut,us,rfl,hb,TC,Nut,Nus⟩:=HX.out k kx
  obtain ⟨a0,a1,a2⟩:=TC.below hB hb
  have hF3:Hid (L++[⟨(txR xs[k]).toArray⟩]=(xs.take (k+1)).map fun x=>⟨(txR x).toArray⟩):=by
   have h:=hF.out
   unfold Hid
   rw [List.take_succ_eq_append_getElem kx,List.map_append,← h]
   rfl
  have cK:Hid (∀ (W:World),Below w.heap.size w W→Calls Tryz.prog 42 #[.agg #[.int .i64 xs[k].k,ut,us]] W fun e w'=>e=.returned (.string ⟨(txR xs[k]).toArray⟩)∧Below W.heap.size W w'):=fun W hW=>HC9.out k kx ut us W hW Nut Nus
  clear hF TC
  obtain ⟨put,cut,rfl, -⟩:=Nut.form
  obtain ⟨pus,cus,rfl, -⟩:=Nus.form
  generalize (⟨(txR xs[k]).toArray⟩:ByteArray)=S at*
  generalize xs[k]=x at*
  generalize x.test.length=nut at*
  generalize x.subs.length=nus at*
  generalize x.k=kk at*
  obtain ⟨p5,c5,rfl⟩:∃ p5 c5,u5=.slice p5 L.length c5:=by obtain ⟨p5,c5,h, -⟩:=hO.out.cap;exact ⟨p5,c5,h⟩
  go_wp2_with fail
  refine (cK.out _ (hB.alloc hsz _)).mono ?_
  rintro e w1 ⟨rfl,hb1⟩
  have hB1:Below w.heap.size w w1:=(hB.alloc hsz _).trans (hb1.mono (by simp;omega))
  have hO1:Hid (OwnN w.heap.size (.slice p5 L.length c5) L w1):=OwnN.bel (OwnN.bel hO.out ((Below.refl _ _).alloc (Nat.le_refl _) _)) hb1
  have HK1:=hB1.size
  clear hb1 hO hB cK hsz
  go_wp2_with (at_builtin;refine wpList_append_own _ rfl _ _ 22 rfl w.heap.size 9 i0 (.string ByteArray.empty) 1 16 Tryz.underlying22 hi hz0 hz1 hz2 rfl (by decide) _ _ _ rfl (World.ownsRow.alloc hO1.out _) ⟨w1.heap.size,0,none⟩ 1 1 [.string S] rfl rfl ?cc1 ?cc2 ?cc3 ?cc4 ?cc5 ?_)
  case cc1=>(intro j u hj;rw [Addr.add_lit];(rcases j with _ | j)<;>simp at hj<;>subst hj<;>simp (maxDischargeDepth:=12) [go_sem])
  case cc2=>(intro u hu;simp at hu;subst hu;rfl)
  case cc3=>unfold maxLen;omega
  case cc4=>omega
  case cc5=>first | omega | (simp;omega)
  intro v' w3 h2 h3 _
  have O3:Hid (OwnN w.heap.size v' (L++[S]) w3):=by
   show w3.ownsRow _ _ _ _ _ _
   rw [List.length_append,List.map_append]
   exact h2
  have B3:Below w.heap.size w w3:=Below.grown (hB1.alloc HK1 _) h3 (by simp;omega) HK.out
  clear h2 h3 HK hO1
  go_wp2
  exact ⟨⟨k+1,L++[S],by omega,by go_num,by simp;omega,hF3,B3,O3⟩,by simp [intOf];omega⟩
theorem eachF_any (xs:List Fm) (V:Value) (w:World) (hV:FmsAt w V xs) (hn:xs.length≤1000000000) (HC:∀ i (hi:i<xs.length) (uv ut us ur:Value) (W:World),Below w.heap.size w W→NmsAt w uv xs[i].vars→TmsAt w ut xs[i].terms→FmsAt w us xs[i].subs→RxsAt w ur xs[i].rgx→Calls Tryz.prog 20 #[.agg #[.int .i64 xs[i].k,.string xs[i].nm,.int .i64 xs[i].op,uv,ut,.int .i64 xs[i].lo,.int .i64 xs[i].hi,.bool xs[i].opn,us,ur]] W fun e w'=>e=.returned (.string ⟨(txF xs[i]).toArray⟩)∧Below W.heap.size W w'):
  Calls Tryz.prog 43 #[V,.func (.func 20) #[] #[]] w fun e w'=>∃ v,e=.returned v∧OwnN w.heap.size v (xs.map fun x=>⟨(txF x).toArray⟩) w'∧Below w.heap.size w w':=by
 obtain ⟨i0,hi,hz0,hz1,hz2⟩:=info_parts inStA
 obtain ⟨p,c,rfl,hl,hc,HX0⟩:=hV.form
 have HX:Hid (∀ i (hi:i<xs.length),∃ b off uv ut us ur,p=some ⟨b,off,none⟩∧b<w.heap.size∧FmC w b (off+i*10) xs[i] uv ut us ur∧NmsAt w uv xs[i].vars∧TmsAt w ut xs[i].terms∧FmsAt w us xs[i].subs∧RxsAt w ur xs[i].rgx):=HX0
 have HC9:Hid (∀ i (hi:i<xs.length) (uv ut us ur:Value) (W:World),Below w.heap.size w W→NmsAt w uv xs[i].vars→TmsAt w ut xs[i].terms→FmsAt w us xs[i].subs→RxsAt w ur xs[i].rgx→Calls Tryz.prog 20 #[.agg #[.int .i64 xs[i].k,.string xs[i].nm,.int .i64 xs[i].op,uv,ut,.int .i64 xs[i].lo,.int .i64 xs[i].hi,.bool xs[i].opn,us,ur]] W fun e w'=>e=.returned (.string ⟨(txF xs[i]).toArray⟩)∧Below W.heap.size W w'):=HC
 clear HX0 hV HC
 obtain ⟨n,en⟩:∃ n:Nat,Hid (xs.length=n):=⟨_,rfl⟩
 obtain ⟨RS,eRS⟩:∃ L:List ByteArray,Hid ((xs.map fun x=>⟨(txF x).toArray⟩)=L):=⟨_,rfl⟩
 rw [eRS.out]
 rw [en.out] at hn hl hc ⊢
 go_enter Tryz.func43,Tryz.ntmps43
 go_wp2
 go_loopw [5,10] (fun v5 v wr=>∃ (k:Nat) (L:List ByteArray),k≤n∧v=.int .i64 k∧L.length≤k∧Hid (L=(xs.take k).map fun x=>⟨(txF x).toArray⟩)∧Below w.heap.size w wr∧Hid (OwnN w.heap.size v5 L wr)) (fun _ v _=>n - (intOf v).toNat)
 case atStart=>exact ⟨0,[],Nat.zero_le _,rfl,Nat.le_refl _,(by show _=_;simp),Below.refl _ _,OwnN.nil _ _⟩
 case round=>
  obtain ⟨k,L,hk,rfl,hLk,hF,hB,hO⟩:=hrel
  have hsz:=hB.size
  have HK:Hid (∀ q,u5.ownBlock=some q→w.heap.size≤q):=fun q hq=>(World.ownsRow.lt hO.out q hq).1
  by_cases hlt:k<n
  case neg=>
   have c2:¬ (k:Int)<n:=by omega
   have hF2:Hid (RS=L):=by
    have h:=hF.out
    rw [List.take_of_length_le (by have:=en.out;omega)] at h
    exact eRS.out.symm.trans h.symm
   go_wp2
   go_ret
   rw [hF2.out]
   exact ⟨_,rfl,hO.out,hB⟩
  have hlt':(k:Int)<n:=by omega
  have kx:k<xs.length:=by have:=en.out;omega
  obtain ⟨b,off,uv,ut,us,ur,rfl,hb,TC,Nuv,Nut,Nus,Nur⟩:=HX.out k kx
  obtain ⟨a0,a1,a2,a3,a4,a5,a6,a7,a8,a9⟩:=TC.below hB hb
  have hF3:Hid (L++[⟨(txF xs[k]).toArray⟩]=(xs.take (k+1)).map fun x=>⟨(txF x).toArray⟩):=by
   have h:=hF.out
   unfold Hid
   rw [List.take_succ_eq_append_getElem kx,List.map_append,← h]
   rfl
  have cK:Hid (∀ (W:World),Below w.heap.size w W→Calls Tryz.prog 20 #[.agg #[.int .i64 xs[k].k,.string xs[k].nm,.int .i64 xs[k].op,uv,ut,.int .i64 xs[k].lo,.int .i64 xs[k].hi,.bool xs[k].opn,us,ur]] W fun e w'=>e=.returned (.string ⟨(txF xs[k]).toArray⟩)∧Below W.heap.size W w'):=fun W hW=>HC9.out k kx uv ut us ur W hW Nuv Nut Nus Nur
  clear hF TC
  obtain ⟨puv,cuv,rfl, -⟩:=Nuv.form
  obtain ⟨put,cut,rfl, -⟩:=Nut.form
  obtain ⟨pus,cus,rfl, -⟩:=Nus.form
  obtain ⟨pur,cur,rfl, -⟩:=Nur.form
  generalize (⟨(txF xs[k]).toArray⟩:ByteArray)=S at*
  generalize xs[k]=x at*
  generalize x.vars.length=nuv at*
  generalize x.terms.length=nut at*
  generalize x.subs.length=nus at*
  generalize x.rgx.length=nur at*
  generalize x.lo=lo at*
  generalize x.hi=hh at*
  generalize x.nm=nm at*
  generalize x.opn=oo at*
  generalize x.op=op at*
  generalize x.k=kk at*
  obtain ⟨p5,c5,rfl⟩:∃ p5 c5,u5=.slice p5 L.length c5:=by obtain ⟨p5,c5,h, -⟩:=hO.out.cap;exact ⟨p5,c5,h⟩
  go_wp2_with fail
  refine (cK.out _ (hB.alloc hsz _)).mono ?_
  rintro e w1 ⟨rfl,hb1⟩
  have hB1:Below w.heap.size w w1:=(hB.alloc hsz _).trans (hb1.mono (by simp;omega))
  have hO1:Hid (OwnN w.heap.size (.slice p5 L.length c5) L w1):=OwnN.bel (OwnN.bel hO.out ((Below.refl _ _).alloc (Nat.le_refl _) _)) hb1
  have HK1:=hB1.size
  clear hb1 hO hB cK hsz
  go_wp2_with (at_builtin;refine wpList_append_own _ rfl _ _ 22 rfl w.heap.size 9 i0 (.string ByteArray.empty) 1 16 Tryz.underlying22 hi hz0 hz1 hz2 rfl (by decide) _ _ _ rfl (World.ownsRow.alloc hO1.out _) ⟨w1.heap.size,0,none⟩ 1 1 [.string S] rfl rfl ?cc1 ?cc2 ?cc3 ?cc4 ?cc5 ?_)
  case cc1=>(intro j u hj;rw [Addr.add_lit];(rcases j with _ | j)<;>simp at hj<;>subst hj<;>simp (maxDischargeDepth:=12) [go_sem])
  case cc2=>(intro u hu;simp at hu;subst hu;rfl)
  case cc3=>unfold maxLen;omega
  case cc4=>omega
  case cc5=>first | omega | (simp;omega)
  intro v' w3 h2 h3 _
  have O3:Hid (OwnN w.heap.size v' (L++[S]) w3):=by
   show w3.ownsRow _ _ _ _ _ _
   rw [List.length_append,List.map_append]
   exact h2
  have B3:Below w.heap.size w w3:=Below.grown (hB1.alloc HK1 _) h3 (by simp;omega) HK.out
  clear h2 h3 HK hO1
  go_wp2
  exact ⟨⟨k+1,L++[S],by omega,by go_num,by simp;omega,hF3,B3,O3⟩,by simp [intOf];omega⟩
end Go.Proofs.YticnfeolbfmgfaaGreatDoor
namespace Go.Proofs.YticnfeolbfmgfaaGreatDoor
open Go.RowKit Go.Shelf LX
set_option linter.unusedVariables false
theorem ext_mid (s:ByteArray) (a b:Nat):(s.extract a b).data.toList=(s.data.toList.drop a).take (b - a):=by
 simp [ByteArray.data_extract]
theorem said_3 (K:Int) (s S:ByteArray) (k n d E:Int) (ok:Bool) (w:World)
  (ht:Pow w) (he:Errs w) (h8:6≤w.heap.size):
  Calls Tryz.prog 73 #[.int .i64 3,.string s] w fun e w'=>e=.returned (.tuple #[.agg #[.int .i64 0,.int .i64 0,.int .i64 0,.string ⟨#[]⟩],.bool (decide ((s.size:Int)≤16))])∧Below w.heap.size w w':=by
 have HE:Hid (Errs w):=he
 have HP:Hid (Pow w):=ht
 clear he ht
 go_enter Tryz.func73,Tryz.ntmps73
 go_upto_region 3 with fail
 refine wp_world ?_
 intro W2 hW2
 have R2:Hid (BlkV W2 w.heap.size 0 0 0 ⟨#[]⟩):=by rw [hW2];constructor<;>simp (maxDischargeDepth:=12) [go_sem]
 have B2:Below w.heap.size w W2:=by rw [hW2];exact (Below.refl _ w).alloc (Nat.le_refl _) _
 clear hW2
 obtain ⟨r0,r1,r2,r3,r4,r5,r6,r7⟩:=R2.out
 go_wp2
 generalize hW9:World.setCell _ _ _=W9
 have b9:BlkV W9 w.heap.size 0 0 0 ⟨#[]⟩:=by rw [← hW9];exact R2.out.four
 have hB9:Below w.heap.size w W9:=by rw [← hW9];exact (((B2.setCell (by simp) _).setCell (by simp) _).setCell (by simp) _).setCell (by simp) _
 clear hW9
 obtain ⟨x0,x1,x2,x3, -, -, -, -⟩:=b9
 refine bodyPost_ret (by simp [results,Tryz.results73,go_sem,x0,x1,x2,x3];try rfl) rfl ?_
 exact ⟨rfl,hB9⟩
theorem said_0 (K:Int) (s S:ByteArray) (k n d E:Int) (ok:Bool) (w:World)
  (ht:Pow w) (he:Errs w) (h8:6≤w.heap.size) (h3:¬ K=3) (h5:¬ K=5) (h6:¬ K=6) (h7:¬ K=7):
  Calls Tryz.prog 73 #[.int .i64 K,.string s] w fun e w'=>e=.returned (.tuple #[.agg #[.int .i64 0,.int .i64 0,.int .i64 0,.string ⟨#[]⟩],.bool true])∧Below w.heap.size w w':=by
 have HE:Hid (Errs w):=he
 have HP:Hid (Pow w):=ht
 clear he ht
 go_enter Tryz.func73,Tryz.ntmps73
 go_upto_region 11 with fail
 refine wp_world ?_
 intro W2 hW2
 have R2:Hid (BlkV W2 w.heap.size 0 0 0 ⟨#[]⟩):=by rw [hW2];constructor<;>simp (maxDischargeDepth:=12) [go_sem]
 have B2:Below w.heap.size w W2:=by rw [hW2];exact (Below.refl _ w).alloc (Nat.le_refl _) _
 clear hW2
 obtain ⟨r0,r1,r2,r3,r4,r5,r6,r7⟩:=R2.out
 go_wp2
 generalize hW9:World.setCell _ _ _=W9
 have b9:BlkV W9 w.heap.size 0 0 0 ⟨#[]⟩:=by rw [← hW9];exact R2.out.four
 have hB9:Below w.heap.size w W9:=by rw [← hW9];exact (((B2.setCell (by simp) _).setCell (by simp) _).setCell (by simp) _).setCell (by simp) _
 clear hW9
 obtain ⟨x0,x1,x2,x3, -, -, -, -⟩:=b9
 refine bodyPost_ret (by simp [results,Tryz.results73,go_sem,x0,x1,x2,x3];try rfl) rfl ?_
 exact ⟨rfl,hB9⟩
theorem said_6 (K:Int) (s S:ByteArray) (k n d E:Int) (ok:Bool) (w:World)
  (PA:Hid (∀ W:World,Pow W→Errs W→6≤W.heap.size→Calls Tryz.prog 117 #[.string s] W fun e w'=>e=.returned (.tuple #[.agg #[.int .i64 k,.int .i64 n,.int .i64 d,.string S],.int .i64 E])∧Below W.heap.size W w'))
  (ht:Pow w) (he:Errs w) (h8:6≤w.heap.size):
  Calls Tryz.prog 73 #[.int .i64 6,.string s] w fun e w'=>e=.returned (.tuple #[.agg #[.int .i64 k,.int .i64 n,.int .i64 d,.string S],.bool (decide (E=0))])∧Below w.heap.size w w':=by
 have HE:Hid (Errs w):=he
 have HP:Hid (Pow w):=ht
 clear he ht
 go_enter Tryz.func73,Tryz.ntmps73
 go_wp2_with fail
 refine (PA.out _ (HP.out.below ((Below.refl _ w).alloc (Nat.le_refl _) _)) (HE.out.alloc h8 _) (by simp;omega)).mono ?_
 rintro e w1 ⟨rfl,hb1⟩
 have R1:Hid (BlkV w1 w.heap.size 0 0 0 ⟨#[]⟩):=BlkV.below (by constructor<;>simp (maxDischargeDepth:=12) [go_sem]) hb1 (by simp)
 have B1:Below w.heap.size w w1:=((Below.refl _ w).alloc (Nat.le_refl _) _).trans (hb1.mono (by simp))
 have z1:w.heap.size<w1.heap.size:=by have:=hb1.size;simp at this;omega
 clear hb1
 go_upto_region 8 with fail
 refine wp_world ?_
 intro W2 hW2
 have R2:Hid (BlkV W2 w.heap.size 0 0 0 ⟨#[]⟩):=by rw [hW2];exact R1.out.below ((Below.refl w1.heap.size w1).alloc (Nat.le_refl _) _) z1
 have V2:Hid (BlkV W2 w1.heap.size k n d S):=by rw [hW2];constructor<;>simp (maxDischargeDepth:=12) [go_sem]
 have B2:Below w.heap.size w W2:=by rw [hW2];exact B1.alloc B1.size _
 clear hW2 R1 B1 z1
 obtain ⟨r0,r1,r2,r3,r4,r5,r6,r7⟩:=R2.out
 obtain ⟨v0,v1,v2,v3, -, -, -, -⟩:=V2.out
 go_wp2
 generalize hW9:World.setCell _ _ _=W9
 have b9:BlkV W9 w.heap.size k n d S:=by rw [← hW9];exact R2.out.four
 have hB9:Below w.heap.size w W9:=by rw [← hW9];exact (((B2.setCell (by simp) _).setCell (by simp) _).setCell (by simp) _).setCell (by simp) _
 clear hW9
 obtain ⟨x0,x1,x2,x3, -, -, -, -⟩:=b9
 refine bodyPost_ret (by simp [results,Tryz.results73,go_sem,x0,x1,x2,x3];try rfl) rfl ?_
 exact ⟨rfl,hB9⟩
theorem said_7 (K:Int) (s S:ByteArray) (k n d E:Int) (ok:Bool) (w:World)
  (NU:Hid (∀ (t:ByteArray) (W:World),t.data.toList=s.data.toList.drop 1→Pow W→Errs W→6≤W.heap.size→Calls Tryz.prog 118 #[.string t] W fun e w'=>e=.returned (.tuple #[.agg #[.int .i64 k,.int .i64 n,.int .i64 d,.string S],.bool ok])∧Below W.heap.size W w'))
  (ht:Pow w) (he:Errs w) (h8:6≤w.heap.size) (hz:1≤s.size):
  Calls Tryz.prog 73 #[.int .i64 7,.string s] w fun e w'=>e=.returned (.tuple #[.agg #[.int .i64 k,.int .i64 n,.int .i64 d,.string S],.bool ok])∧Below w.heap.size w w':=by
 have HE:Hid (Errs w):=he
 have HP:Hid (Pow w):=ht
 clear he ht
 go_enter Tryz.func73,Tryz.ntmps73
 have hz':(1:Int)≤s.size:=by omega
 go_wp2_with fail
 refine (NU.out _ _ (ext_drop s 1 hz) (HP.out.below ((Below.refl _ w).alloc (Nat.le_refl _) _)) (HE.out.alloc h8 _) (by simp;omega)).mono ?_
 rintro e w1 ⟨rfl,hb1⟩
 have R1:Hid (BlkV w1 w.heap.size 0 0 0 ⟨#[]⟩):=BlkV.below (by constructor<;>simp (maxDischargeDepth:=12) [go_sem]) hb1 (by simp)
 have B1:Below w.heap.size w w1:=((Below.refl _ w).alloc (Nat.le_refl _) _).trans (hb1.mono (by simp))
 have z1:w.heap.size<w1.heap.size:=by have:=hb1.size;simp at this;omega
 clear hb1
 obtain ⟨r0,r1,r2,r3,r4,r5,r6,r7⟩:=R1.out
 go_wp2
 generalize hW9:World.setCell _ _ _=W9
 have b9:BlkV W9 w.heap.size k n d S:=by rw [← hW9];exact R1.out.four
 have hB9:Below w.heap.size w W9:=by rw [← hW9];exact (((B1.setCell (by simp) _).setCell (by simp) _).setCell (by simp) _).setCell (by simp) _
 clear hW9
 obtain ⟨x0,x1,x2,x3, -, -, -, -⟩:=b9
 refine bodyPost_ret (by simp [results,Tryz.results73,go_sem,x0,x1,x2,x3];try rfl) rfl ?_
 exact ⟨rfl,hB9⟩
theorem said_5 (K:Int) (s S:ByteArray) (k n d E:Int) (ok:Bool) (w:World)
  (IV:Hid (∀ (t:ByteArray) (W:World),t.data.toList=(s.data.toList.drop 1).take (s.size - 2)→Pow W→Errs W→6≤W.heap.size→Calls Tryz.prog 116 #[.string t] W fun e w'=>e=.returned (.bool ok)∧Below W.heap.size W w'))
  (ht:Pow w) (he:Errs w) (h8:6≤w.heap.size) (hz:2≤s.size) (hs:s.size≤35184372088830):
  Calls Tryz.prog 73 #[.int .i64 5,.string s] w fun e w'=>e=.returned (.tuple #[.agg #[.int .i64 0,.int .i64 0,.int .i64 0,.string ⟨#[]⟩],.bool ok])∧Below w.heap.size w w':=by
 have HE:Hid (Errs w):=he
 have HP:Hid (Pow w):=ht
 clear he ht
 go_enter Tryz.func73,Tryz.ntmps73
 obtain ⟨m,hm⟩:∃ m:Nat,s.size=m+1:=⟨s.size - 1,by omega⟩
 have hm1:(1:Int)≤m:=by omega
 have hm2:(m:Int)≤35184372088829:=by omega
 have hm3:(m:Int)≤(m:Int)+1:=by omega
 go_wp2_with fail
 refine (IV.out _ _ (by rw [ext_mid];congr 1;omega) (HP.out.below ((Below.refl _ w).alloc (Nat.le_refl _) _)) (HE.out.alloc h8 _) (by simp;omega)).mono ?_
 rintro e w1 ⟨rfl,hb1⟩
 have R1:Hid (BlkV w1 w.heap.size 0 0 0 ⟨#[]⟩):=BlkV.below (by constructor<;>simp (maxDischargeDepth:=12) [go_sem]) hb1 (by simp)
 have B1:Below w.heap.size w w1:=((Below.refl _ w).alloc (Nat.le_refl _) _).trans (hb1.mono (by simp))
 have z1:w.heap.size<w1.heap.size:=by have:=hb1.size;simp at this;omega
 clear hb1
 obtain ⟨r0,r1,r2,r3,r4,r5,r6,r7⟩:=R1.out
 go_wp2
 generalize hW9:World.setCell _ _ _=W9
 have b9:BlkV W9 w.heap.size 0 0 0 ⟨#[]⟩:=by rw [← hW9];exact R1.out.four
 have hB9:Below w.heap.size w W9:=by rw [← hW9];exact (((B1.setCell (by simp) _).setCell (by simp) _).setCell (by simp) _).setCell (by simp) _
 clear hW9
 obtain ⟨x0,x1,x2,x3, -, -, -, -⟩:=b9
 refine bodyPost_ret (by simp [results,Tryz.results73,go_sem,x0,x1,x2,x3];try rfl) rfl ?_
 exact ⟨rfl,hB9⟩
def sdB (k:Nat) (l:List UInt8):Val×Bool:=
 if k=3 then (zeroV,decide (l.length≤16)) else if k=5 then (zeroV,ivB ((l.drop 1).take (l.length - 2))) else if k=6 then ((prs l).1,decide ((prs l).2=0)) else if k=7 then numB (l.drop 1) else (zeroV,true)
theorem said_any (K:Nat) (s:ByteArray) (w:World) (hs:s.size≤35184372088830) (ht:Pow w) (he:Errs w) (h8:6≤w.heap.size) (h5:K=5→2≤s.size) (h7:K=7→1≤s.size):
  Calls Tryz.prog 73 #[.int .i64 K,.string s] w fun e w'=>e=.returned (.tuple #[(sdB K s.data.toList).1.agg,.bool (sdB K s.data.toList).2])∧Below w.heap.size w w':=by
 have hl:s.data.toList.length=s.size:=by simp
 unfold sdB
 by_cases g3:K=3
 ·subst g3
  rw [if_pos rfl,hl]
  have q:=said_3 0 s s 0 0 0 0 true w ht he h8
  rw [show decide ((s.size:Int)≤16)=decide (s.size≤16) from decide_eq_decide.mpr (by omega)] at q
  exact q
 rw [if_neg g3]
 by_cases g5:K=5
 ·subst g5
  rw [if_pos rfl,hl]
  have IV:∀ (t:ByteArray) (W:World),t.data.toList=(s.data.toList.drop 1).take (s.size - 2)→Pow W→Errs W→6≤W.heap.size→Calls Tryz.prog 116 #[.string t] W fun e w'=>e=.returned (.bool (ivB ((s.data.toList.drop 1).take (s.size - 2))))∧Below W.heap.size W w':=by
   intro t W e1 q1 q2 q3
   have hlt:t.data.toList.length=t.size:=by simp
   rw [e1] at hlt
   simp at hlt
   have q:=iv_any t W (by omega) q1 q2 q3
   rw [e1] at q
   exact q
  exact said_5 0 s s 0 0 0 0 _ w IV ht he h8 (h5 rfl) hs
 rw [if_neg g5]
 by_cases g6:K=6
 ·subst g6
  rw [if_pos rfl]
  exact said_6 0 s _ _ _ _ _ true w (fun W q1 q2 q3=>parse_any s W hs q1 q2 q3) ht he h8
 rw [if_neg g6]
 by_cases g7:K=7
 ·subst g7
  rw [if_pos rfl]
  have NU:∀ (t:ByteArray) (W:World),t.data.toList=s.data.toList.drop 1→Pow W→Errs W→6≤W.heap.size→Calls Tryz.prog 118 #[.string t] W fun e w'=>e=.returned (.tuple #[.agg #[.int .i64 (numB (s.data.toList.drop 1)).1.k,.int .i64 (numB (s.data.toList.drop 1)).1.n,.int .i64 (numB (s.data.toList.drop 1)).1.d,.string (numB (s.data.toList.drop 1)).1.s],.bool (numB (s.data.toList.drop 1)).2])∧Below W.heap.size W w':=by
   intro t W e1 q1 q2 q3
   have hlt:t.data.toList.length=t.size:=by simp
   rw [e1] at hlt
   simp at hlt
   have q:=lnumber_any t W (by omega) q1 q2 q3
   rw [e1] at q
   exact q
  exact said_7 0 s _ _ _ _ 0 _ w NU ht he h8 (h7 rfl)
 rw [if_neg g7]
 exact said_0 K s s 0 0 0 0 true w ht he h8 (by omega) (by omega) (by omega) (by omega)
end Go.Proofs.YticnfeolbfmgfaaGreatDoor
namespace Go.Proofs
open Go.Shelf
def Tryz.grS_ren:Go.Shelf.Ren:=⟨fun | 4=>226 | n=>n,fun | 22=>22 | 25=>9 | 3=>3 | 4=>4 | 9=>9 | 20=>20 | 0=>0 | n=>n,fun | n=>n⟩
theorem Tryz.grS:Go.Proofs.Lays8.n4 Tryz.prog Tryz.grS_ren:={
 mixed:=by kernel_rfl
 f4:=⟨Tryz.f226.name,by decide,Tryz.func226.trans (congrArg some (by kernel_rfl))⟩
 t0:=Tryz.underlying0
 a0:=Tryz.isAgg0
 z0:=Tryz.sizeOf0
 v0:=Tryz.zeroValue0
 t3:=Tryz.underlying3
 a3:=Tryz.isAgg3
 z3:=Tryz.sizeOf3
 v3:=Tryz.zeroValue3
 t4:=Tryz.underlying4
 a4:=Tryz.isAgg4
 z4:=Tryz.sizeOf4
 v4:=Tryz.zeroValue4
 t9:=Tryz.underlying9
 a9:=Tryz.isAgg9
 z9:=Tryz.sizeOf9
 v9:=Tryz.zeroValue9
 t20:=Tryz.underlying20
 a20:=Tryz.isAgg20
 z20:=Tryz.sizeOf20
 v20:=Tryz.zeroValue20
 t22:=Tryz.underlying22
 a22:=Tryz.isAgg22
 z22:=Tryz.sizeOf22
 v22:=Tryz.zeroValue22}
end Go.Proofs
namespace Go.Proofs.YticnfeolbfmgfaaGreatDoor
open Go.RowKit LX Go.Shelf
set_option linter.unusedVariables false
def LstsAt (w:World) (A:Value) (us:List Value) (rs:List (List ByteArray)):Prop:=us.length=rs.length∧∃ p c,A=.slice p us.length c∧(∀ k (hk:k<us.length),∃ b off,p=some ⟨b,off,none⟩∧b<w.heap.size∧w.cell? ⟨b,off+k,none⟩=some us[k])∧∀ k (hk:k<us.length) (ky:k<rs.length),NmsAt w us[k] rs[k]
theorem heap_allocA (w:World) (o:Obj):(w.alloc o).heap[w.heap.size]? =some o:=by
 show (w.heap.push o)[w.heap.size]? =some o
 rw [Array.getElem?_push,if_pos rfl]
theorem growS_any (n:Nat) (w:World) (hn:n≤1000000000):Calls Tryz.prog 226 #[.slice none 0 0,.int .i64 n] w fun e w'=>∃ v,e=.returned v∧OwnN w.heap.size v [] w'∧Below w.heap.size w w':=by
 obtain ⟨i0,hi,hz0,hz1,hz2⟩:=info_parts inStA
 by_cases h0:n=0
 ·subst h0
  refine (Any8.slices_Grow_room Tryz.grS none 0 0 0 w (by omega) (by omega) (by omega) (by omega)).mono ?_
  rintro e w' ⟨rfl,rfl⟩
  exact ⟨_,rfl,World.ownsRow_nil _ _ _ _,Below.refl _ _⟩
 ·refine (Any8.slices_Grow_grow Tryz.grS i0 _ hi hz0 (by omega) none 0 0 n [] w (by omega) (by omega) (by rw [hz2];omega) (by omega) (by simp) (fun _=>rfl) (by intro a h;cases h)).mono ?_
  rintro e w' ⟨rfl,rfl⟩
  refine ⟨_,rfl,⟨rfl,Or.inr ⟨w.heap.size,_,_,rfl,Nat.le_refl _,heap_allocA _ _,Nat.zero_le _, ?_, ?_,by simp⟩⟩,((Below.refl _ _).drew).alloc (Nat.le_refl _) _⟩
  ·exact grownCap_le_maxLen w _ _ _ (by unfold maxLen;omega)
  ·have hG:=grownCap_ge w (0+n) 0 (Tryz.grS_ren.t 25)
   simp only [Nat.zero_add] at hG
   simp [Builtin.zeroCells,Value.cells]
   omega
theorem concatS_any (A:Value) (us:List Value) (rs:List (List ByteArray)) (w:World) (hA:LstsAt w A us rs) (lt:rs.flatten.length≤1000000000) (lu:us.length≤1000000000):
  Calls Tryz.prog 197 #[A] w fun e w'=>∃ v,e=.returned v∧OwnN w.heap.size v rs.flatten w'∧Below w.heap.size w w':=by
 obtain ⟨i0,hi,hz0,hz1,hz2⟩:=info_parts inStA
 obtain ⟨h1,p,c,rfl,HV0,hrs⟩:=hA
 have HV:Hid (∀ k (hk:k<us.length),∃ b off,p=some ⟨b,off,none⟩∧b<w.heap.size∧w.cell? ⟨b,off+k,none⟩=some us[k]):=HV0
 have HR:Hid (∀ k (hk:k<us.length) (ky:k<rs.length),NmsAt w us[k] rs[k]):=hrs
 have HT:Hid (rs.flatten.length≤1000000000):=lt
 have GR:Hid (∀ (n:Nat) (W:World),n≤1000000000→Calls Tryz.prog 226 #[.slice none 0 0,.int .i64 n] W fun e w'=>∃ v,e=.returned v∧OwnN W.heap.size v [] w'∧Below W.heap.size W w'):=growS_any
 obtain ⟨n,en⟩:∃ n:Nat,Hid (us.length=n):=⟨_,rfl⟩
 have er:Hid (rs.length=n):=h1.symm.trans en.out
 rw [en.out] at lu ⊢
 clear hrs HV0 lt
 go_enter Tryz.func197,Tryz.ntmps197
 go_wp2
 go_loopw [3,11] (fun s i wr=>∃ (k T:Nat),k≤n∧i=.int .i64 k∧s=.int .i64 T∧Hid (T=(rs.take k).flatten.length)∧T≤1000000000∧w=wr) (fun _ i _=>n - (intOf i).toNat)
 case atStart=>exact ⟨0,0,Nat.zero_le _,rfl,rfl,(show 0=((rs.take 0).flatten).length by simp),by omega,rfl⟩
 case round=>
  obtain ⟨k,T,hk,rfl,rfl,hT,lT,rfl⟩:=hrel
  by_cases hlt:k<n
  ·have kx:k<us.length:=by have:=en.out;omega
   have ky:k<rs.length:=by have:=er.out;omega
   obtain ⟨b,off,rfl,hb,q1⟩:=HV.out k kx
   have hx:=HR.out k kx ky
   have hT2:Hid (T+rs[k].length=(rs.take (k+1)).flatten.length):=by
    show _=_
    rw [List.take_succ_eq_append_getElem ky,List.flatten_append,List.length_append,← hT.out]
    simp
   have hT3:T+rs[k].length≤1000000000:=by
    have h:=HT.out
    have h2:(rs.take (k+1)).flatten.length≤rs.flatten.length:=by
     conv=>rhs;rw [← List.take_append_drop (k+1) rs]
     rw [List.flatten_append,List.length_append]
     omega
    have:=hT2.out
    omega
   generalize us[k]=u at q1 hx
   obtain ⟨pu,cu,rfl, -⟩:=hx.form
   generalize rs[k].length=nx at q1 hT2 hT3
   clear hx
   go_wp2
   exact ⟨⟨k+1,T+nx,by omega,by go_num,by go_num,hT2,hT3,by trivial⟩,by simp [intOf];omega⟩
  ·have c2:¬ (k:Int)<n:=by omega
   have hT2:Hid (T=rs.flatten.length):=by
    have h:=hT.out
    rwa [List.take_of_length_le (by have:=er.out;omega)] at h
   go_wp2_with fail
   refine (GR.out T _ lT).mono ?_
   rintro e w1 ⟨v,rfl,ho,hb1⟩
   have HO:Hid (OwnN w.heap.size v [] w1):=ho
   obtain ⟨pv,nv,cv,rfl⟩:∃ pv nv cv,v=.slice pv nv cv:=by
    obtain ⟨-,⟨e, -⟩ | ⟨g,cap,cur,e, -⟩⟩:=ho
    ·exact ⟨_,_,_,e⟩
    ·exact ⟨_,_,_,e⟩
   clear ho
   go_wp2
   go_loopw [6,27] (fun v i wr=>∃ (k:Nat),k≤n∧i=.int .i64 k∧Hid (OwnN w.heap.size v (rs.take k).flatten wr)∧Below w.heap.size w wr) (fun _ i _=>n - (intOf i).toNat)
   case atStart=>exact ⟨0,Nat.zero_le _,rfl,HO,hb1⟩
   case round=>
    obtain ⟨k2,hk2,rfl,HO2,hB2⟩:=hrel
    by_cases hlt2:k2<n
    ·have kx:k2<us.length:=by have:=en.out;omega
     have ky:k2<rs.length:=by have:=er.out;omega
     obtain ⟨b,off,rfl,hb,q1⟩:=HV.out k2 kx
     have q2:wr.cell? ⟨b,off+k2,none⟩=some us[k2]:=(hB2.cell (p:=⟨b,_,none⟩) hb).trans q1
     have hx:=(HR.out k2 kx ky).below hB2
     have hF:Hid ((rs.take (k2+1)).flatten=(rs.take k2).flatten++rs[k2]):=by
      show _=_
      rw [List.take_succ_eq_append_getElem ky,List.flatten_append]
      simp
     have hT3:((rs.take k2).flatten).length+rs[k2].length≤1000000000:=by
      have h:=HT.out
      have h2:(rs.take (k2+1)).flatten.length≤rs.flatten.length:=by
       conv=>rhs;rw [← List.take_append_drop (k2+1) rs]
       rw [List.flatten_append,List.length_append]
       omega
      rw [hF.out,List.length_append] at h2
      omega
     clear q1
     generalize us[k2]=u at q2 hx
     generalize rs[k2]=x at hx hF hT3
     obtain ⟨F,eF⟩:∃ F,Hid ((rs.take k2).flatten=F):=⟨_,rfl⟩
     rw [eF.out] at HO2 hF hT3
     have HX:Hid (SrcA wr 1 u x.length (x.map Value.string)):=srcA_nms hx
     obtain ⟨pu,cu,rfl, -⟩:=hx.form
     have hK:=hB2.size
     have HK:Hid (∀ q,u6.ownBlock=some q→w.heap.size≤q):=fun q hq=>(World.ownsRow.lt HO2.out q hq).1
     clear hx
     go_wp2_with (at_builtin;refine wpList_append_srcA rfl (.tmp 31) (.tmp 32) 22 rfl w.heap.size 9 i0 _ 1 16 Tryz.underlying22 hi hz0 hz1 hz2 rfl (by decide) _ _ _ rfl HO2.out _ x.length (x.map Value.string) rfl HX.out (by intro u hu;obtain ⟨y, -,rfl⟩:=List.mem_map.1 hu;rfl) (by unfold maxLen;omega) (by omega) hK ?grow)
     case grow=>
      intro v' w3 h2 h3 _
      have O3:Hid (OwnN w.heap.size v' (rs.take (k2+1)).flatten w3):=by
       show OwnN _ _ _ _
       rw [hF.out]
       unfold OwnN
       rw [List.length_append,List.map_append]
       exact h2
      have B3:Below w.heap.size w w3:=hB2.grown h3 hK HK.out
      clear h2 h3 HX HO2 HK
      go_wp2
      exact ⟨⟨k2+1,by omega,by go_num,O3,B3⟩,by simp [intOf];omega⟩
    ·have c3:¬ (k2:Int)<n:=by omega
     have O3:Hid (OwnN w.heap.size u6 rs.flatten wr):=by
      have h:=HO2.out
      rwa [List.take_of_length_le (by have:=er.out;omega)] at h
     go_wp2
     go_ret
     exact ⟨_,rfl,O3.out,hB2⟩
end Go.Proofs.YticnfeolbfmgfaaGreatDoor
namespace Go.Proofs.YticnfeolbfmgfaaGreatDoor
open Go.RowKit LX Go.Shelf Go.Sort
set_option linter.unusedVariables false
def bts (l:List ByteArray):List (List UInt8):=l.map (·.data.toList)
def unb (l:List (List UInt8)):List ByteArray:=l.map fun x=>⟨x.toArray⟩
theorem unb_str (l:List (List UInt8)):(unb l).map Value.string=l.map encStr:=by
 unfold unb
 rw [List.map_map]
 rfl
theorem bts_str (l:List ByteArray):(bts l).map encStr=l.map Value.string:=Lib.map_encStr l
def srtN (l:List ByteArray):List ByteArray:=unb ((bts l).mergeSort fun x y=>decide (x≤y))
def cmpN (l:List ByteArray):List ByteArray:=unb (Lib.compact (bts l))
theorem sortS_any (B:Nat) (v:Value) (L:List ByteArray) (w:World) (hB:B≤w.heap.size) (h:OwnN B v L w) (hl:L.length<4611686018427387904):
  Calls Tryz.prog 198 #[v] w fun e w'=>e=.returned (.tuple #[])∧OwnN B v (srtN L) w'∧Below B w w':=by
 by_cases hv:v=.slice none 0 0
 ·subst hv
  have hL:L=[]:=by
   obtain ⟨p,c,e, -⟩:=h.cap
   injection e with e1 e2 e3
   exact List.length_eq_zero_iff.1 e2.symm
  subst hL
  refine (Any.slices_Sort_string_none Tryz.lays190 none 0 w).mono ?_
  rintro e w' ⟨rfl,rfl⟩
  have e0:srtN []=[]:=by simp [srtN,bts,unb]
  rw [e0]
  exact ⟨rfl,h,Below.refl _ _⟩
 ·have h0:w.ownsRow B 9 1 v L.length ((bts L).map encStr):=by rw [bts_str];exact h
  obtain ⟨g,cap,rfl,hg,hlt,hn,hm,hz,hH⟩:=Lib.holds_of_ownsRow h0 hv
  have hc:=Any.slices_Sort_string Tryz.lays190 g 0 cap (bts L) w hH hlt (by omega)
  rw [hz] at hc
  refine hc.mono ?_
  rintro e w' ⟨rfl,n,os,rfl⟩
  have hk:=Lib.ownsRow_putRow (q:=n) (ys:=(bts L).mergeSort fun x y=>decide (x≤y)) (k:=L.length) h0 (by rw [List.length_mergeSort];exact hz) (Nat.le_refl _)
  rw [List.take_of_length_le (by rw [List.length_mergeSort];omega)] at hk
  have hl2:(srtN L).length=L.length:=by unfold srtN unb;rw [List.length_map,List.length_mergeSort];exact hz
  have hgb:∀ (W:World),W.grownBy (grow W os) none:=fun W=>⟨rfl,rfl,rfl,by simp,fun k hk _=>heap_grow_old W os hk⟩
  refine ⟨rfl, ?_, ?_⟩
  ·show World.ownsRow _ _ _ _ _ _ _
   rw [hl2]
   unfold srtN
   rw [unb_str]
   exact World.ownsRow.kept hk (hgb _) (Or.inr (by intro h;cases h))
  ·have hb1:Below B w (putRow encStr (Sort.ahead w n) g 0 ((bts L).mergeSort fun x y=>decide (x≤y)).toArray):=Lib.below_putRow (Below.refl _ _) hg
   exact hb1.grown (hgb _) (Nat.le_trans hB hb1.size) (fun k hk=>by cases hk)
theorem compactS_any (B:Nat) (v:Value) (L:List ByteArray) (w:World) (h:OwnN B v L w) (hl:L.length≤9223372036854775807):
  Calls Tryz.prog 199 #[v] w fun e w'=>∃ v',e=.returned v'∧OwnN B v' (cmpN L) w'∧Below B w w':=by
 by_cases hv:v=.slice none 0 0
 ·subst hv
  have hL:L=[]:=by
   obtain ⟨p,c,e, -⟩:=h.cap
   injection e with e1 e2 e3
   exact List.length_eq_zero_iff.1 e2.symm
  subst hL
  refine (Tryz.slices_Compact_string_empty none 0 w).mono ?_
  rintro e w' ⟨rfl,rfl⟩
  have e0:cmpN []=[]:=by rfl
  rw [e0]
  exact ⟨_,rfl,h,Below.refl _ _⟩
 ·have h0:w.ownsRow B 9 1 v L.length ((bts L).map encStr):=by rw [bts_str];exact h
  obtain ⟨g,cap,rfl,hg,hlt,hn,hm,hz,hH⟩:=Lib.holds_of_ownsRow h0 hv
  have hc:=Tryz.slices_Compact_string g 0 cap (bts L) w hH (by omega) (by omega)
  rw [hz] at hc
  refine hc.mono ?_
  rintro e w' ⟨rfl,q,rfl⟩
  have hle:=Lib.compact_length_le (bts L)
  have hk:=Lib.ownsRow_putRow (q:=q) (ys:=Lib.compact (bts L)++List.replicate (L.length - (Lib.compact (bts L)).length) []) (k:=(Lib.compact (bts L)).length) h0 (by rw [List.length_append,List.length_replicate];omega) (by omega)
  rw [List.take_left' rfl] at hk
  have hl2:(cmpN L).length=(Lib.compact (bts L)).length:=by unfold cmpN unb;rw [List.length_map]
  refine ⟨_,rfl, ?_,Lib.below_putRow (Below.refl _ _) hg⟩
  show World.ownsRow _ _ _ _ _ _ _
  rw [hl2]
  unfold cmpN
  rw [unb_str]
  exact hk
theorem srtN_len (L:List ByteArray):(srtN L).length=L.length:=by unfold srtN unb bts;rw [List.length_map,List.length_mergeSort,List.length_map]
def uniN (rs:List (List ByteArray)):List ByteArray:=cmpN (srtN rs.flatten)
theorem union_any (A:Value) (us:List Value) (rs:List (List ByteArray)) (w:World) (hA:LstsAt w A us rs) (lt:rs.flatten.length≤1000000000) (lu:us.length≤1000000000):
  Calls Tryz.prog 168 #[A] w fun e w'=>∃ v,e=.returned v∧OwnN w.heap.size v (uniN rs) w'∧Below w.heap.size w w':=by
 have cC:Hid (Calls Tryz.prog 197 #[A] w fun e w'=>∃ v,e=.returned v∧OwnN w.heap.size v rs.flatten w'∧Below w.heap.size w w'):=concatS_any A us rs w hA lt lu
 obtain ⟨-,p,c,rfl, -⟩:=hA
 generalize us.length=n at*
 obtain ⟨F,eF⟩:∃ F,Hid (rs.flatten=F):=⟨_,rfl⟩
 have eU:Hid (uniN rs=cmpN (srtN F)):=by unfold Hid uniN;rw [eF.out]
 rw [eU.out]
 rw [eF.out] at cC lt
 go_enter Tryz.func168,Tryz.ntmps168
 go_wp2_with fail
 refine cC.out.mono ?_
 rintro r w1 ⟨v,rfl,hO,hB⟩
 have HO:Hid (OwnN w.heap.size v F w1):=hO
 clear cC hO
 go_wp2_with fail
 refine (sortS_any w.heap.size v F w1 hB.size HO.out (by omega)).mono ?_
 rintro r w2 ⟨rfl,hO2,hb2⟩
 have HO2:Hid (OwnN w.heap.size v (srtN F) w2):=hO2
 have hB2:Below w.heap.size w w2:=hB.trans hb2
 clear HO hO2 hb2
 go_wp2_with fail
 refine (compactS_any w.heap.size v (srtN F) w2 HO2.out (by rw [srtN_len];omega)).mono ?_
 rintro r w3 ⟨v3,rfl,hO3,hb3⟩
 have hB3:Below w.heap.size w w3:=hB2.trans hb3
 have HO3:Hid (OwnN w.heap.size v3 (cmpN (srtN F)) w3):=hO3
 clear hO3 hb3 HO2
 go_wp2
 go_ret
 exact ⟨_,rfl,HO3.out,hB3⟩
end Go.Proofs.YticnfeolbfmgfaaGreatDoor
namespace Go.Proofs.YticnfeolbfmgfaaGreatDoor
open Go.RowKit LX Go.Shelf
set_option linter.unusedVariables false
section
mutual
def tvs:Tm→List ByteArray
 | .mk k nm v subs=>(if k=1 then [nm] else [])++tvss subs
def tvss:List Tm→List ByteArray
 | []=>[]
 | t::l=>tvs t++tvss l
end
end
theorem tvs_eq (t:Tm):tvs t=(if t.k=1 then [t.nm] else [])++tvss t.subs:=by
 cases t
 rw [tvs]
 rfl
theorem tvss_nil:tvss []=[]:=by rw [tvss]
theorem tvss_cons (t:Tm) (l:List Tm):tvss (t::l)=tvs t++tvss l:=by rw [tvss]
theorem gathered_any (w0:World) (B:Nat) (hB0:w0.heap.size≤B):∀ (m:Nat) (ts:List Tm) (V U:Value) (L:List ByteArray) (w:World),SizeOf.sizeOf ts≤m→TmsAt w0 V ts→Below w0.heap.size w0 w→B≤w.heap.size→OwnN B U L w→(L++tvss ts).length≤1000000000→
  Calls Tryz.prog 169 #[U,V] w fun e w'=>∃ v,e=.returned v∧OwnN B v (L++tvss ts) w'∧Below B w w':=by
 obtain ⟨i0,hi,hz0,hz1,hz2⟩:=info_parts inStA
 intro m
 induction m with
 | zero=>intro ts V U L w hm;cases ts<;>simp at hm
 | succ m ih=>
  intro ts V U L w hm hV hw hBw hU hlen
  obtain ⟨p,c,rfl,hl,hc,HX0⟩:=hV.form
  have HX:Hid (∀ i (hi:i<ts.length),∃ b off u,p=some ⟨b,off,none⟩∧b<w0.heap.size∧TmC w0 b (off+i*7) ts[i] u∧TmsAt w0 u ts[i].subs∧ts[i].v.Fits):=HX0
  have IH:Hid (∀ (ts:List Tm) (V U:Value) (L:List ByteArray) (w:World),SizeOf.sizeOf ts≤m→TmsAt w0 V ts→Below w0.heap.size w0 w→B≤w.heap.size→OwnN B U L w→(L++tvss ts).length≤1000000000→
   Calls Tryz.prog 169 #[U,V] w fun e w'=>∃ v,e=.returned v∧OwnN B v (L++tvss ts) w'∧Below B w w'):=ih
  have HU:Hid (OwnN B U L w):=hU
  have HM:Hid (SizeOf.sizeOf ts≤m+1):=hm
  obtain ⟨R,eR⟩:∃ R:List ByteArray,Hid (L++tvss ts=R):=⟨_,rfl⟩
  rw [eR.out] at hlen ⊢
  clear hV HX0 ih hU hm
  obtain ⟨n,en⟩:∃ n:Nat,Hid (ts.length=n):=⟨_,rfl⟩
  rw [en.out] at hl hc ⊢
  go_enter Tryz.func169,Tryz.ntmps169
  go_wp2
  go_loopw [0,9] (fun v0 v wr=>∃ (k:Nat) (M:List ByteArray),k≤n∧v=.int .i64 k∧Hid (R=M++tvss (ts.drop k))∧Below B w wr∧Hid (OwnN B v0 M wr)) (fun _ v _=>n - (intOf v).toNat)
  case atStart=>exact ⟨0,L,Nat.zero_le _,rfl,by rw [List.drop_zero];exact eR.out.symm,Below.refl _ _,HU⟩
  case round=>
   obtain ⟨k,M,hk,rfl,hr,hB,hO⟩:=hrel
   have hsz:=hB.size
   have HK:Hid (∀ q,u0.ownBlock=some q→B≤q∧q<wr.heap.size):=fun q hq=>World.ownsRow.lt hO.out q hq
   by_cases hlt:k<n
   case neg=>
    have c2:¬ (k:Int)<n:=by omega
    have hr2:Hid (R=M):=by
     have h:=hr.out
     rw [List.drop_eq_nil_of_le (by have:=en.out;omega),tvss_nil,List.append_nil] at h
     exact h
    go_wp2
    go_ret
    rw [hr2.out]
    exact ⟨_,rfl,hO.out,hB⟩
   have hlt':(k:Int)<n:=by omega
   have kx:k<ts.length:=by have:=en.out;omega
   obtain ⟨b,off,u,rfl,hb,TC,TS,TF⟩:=HX.out k kx
   have hBr:Below w0.heap.size w0 wr:=hw.trans (hB.mono hB0)
   obtain ⟨a0,a1,a2,a3,a4,a5,a6⟩:=TC.below hBr hb
   have hr2:Hid (R=M++((if ts[k].k=1 then [ts[k].nm] else [])++tvss ts[k].subs)++tvss (ts.drop (k+1))):=by
    have h:=hr.out
    rw [List.drop_eq_getElem_cons kx,tvss_cons,tvs_eq] at h
    exact h.trans (List.append_assoc _ _ _).symm
   have hsz2:SizeOf.sizeOf ts[k].subs≤m:=by
    have h1:=mem_lt k kx
    have h2:=ts[k].subs_lt
    have h3:=HM.out
    omega
   clear TC hr TF
   generalize ts[k]=t at*
   obtain ⟨pu,cu,rfl, -⟩:=TS.form
   obtain ⟨SV,hSV⟩:∃ SV:List ByteArray,Hid (tvss t.subs=SV):=⟨_,rfl⟩
   have cR:Hid (∀ (W:World) (U:Value) (M:List ByteArray),Below w0.heap.size w0 W→B≤W.heap.size→OwnN B U M W→(M++SV).length≤1000000000→Calls Tryz.prog 169 #[U,.slice pu t.subs.length cu] W fun e w'=>∃ v,e=.returned v∧OwnN B v (M++SV) w'∧Below B W w'):=fun W U M h1 h2 h3 h4=>by
    have h:=IH.out t.subs _ U M W hsz2 TS h1 h2 h3 (by rw [hSV.out];exact h4)
    rw [hSV.out] at h
    exact h
   rw [hSV.out] at hr2
   clear TS hsz2 hSV
   generalize t.subs.length=nu at*
   generalize t.v.k=vk at*
   generalize t.v.n=vn at*
   generalize t.v.d=vd at*
   generalize t.v.s=vs at*
   generalize t.k=tk at*
   generalize t.nm=nm at*
   have hBB:B≤wr.heap.size:=by omega
   by_cases h1:tk=1
   ·subst h1
    have hr3:Hid (R=(M++[nm])++SV++tvss (ts.drop (k+1))):=by
     have h:=hr2.out
     rw [if_pos rfl,← List.append_assoc] at h
     exact h
    have hlM:M.length+1≤1000000000:=by
     have h:=congrArg List.length hr3.out
     simp at h
     omega
    have hlS:(M++[nm]++SV).length≤1000000000:=by
     have h:=congrArg List.length hr3.out
     rw [List.length_append] at h
     omega
    clear hr2
    go_wp2_with (at_builtin;refine wpList_append_own _ rfl _ _ 22 rfl B 9 i0 (.string ByteArray.empty) 1 16 Tryz.underlying22 hi hz0 hz1 hz2 rfl (by decide) _ _ _ rfl (World.ownsRow.alloc (World.ownsRow.alloc hO.out _) _) ⟨wr.heap.size+1,0,none⟩ 1 1 [.string nm] rfl rfl ?cc1 ?cc2 ?cc3 ?cc4 ?cc5 ?_)
    case cc1=>(intro j u hj;rw [Addr.add_lit];(rcases j with _ | j)<;>simp at hj<;>subst hj<;>simp (maxDischargeDepth:=12) [go_sem])
    case cc2=>(intro u hu;simp at hu;subst hu;rfl)
    case cc3=>unfold maxLen;omega
    case cc4=>omega
    case cc5=>first | omega | (simp;omega)
    intro v' w3 h2 h3 _
    have O3:Hid (OwnN B v' (M++[nm]) w3):=by
     show w3.ownsRow _ _ _ _ _ _
     rw [List.length_append,List.map_append]
     exact h2
    have B3:Below B w w3:=Below.grown ((hB.alloc hBB _).alloc (by simp;omega) _) h3 (by simp;omega) (fun q hq=>(HK.out q hq).1)
    have e6:w3.cell? ⟨wr.heap.size,6,none⟩=some (.slice pu nu cu):=by
     refine (World.cell?_of_block (h3.block wr.heap.size (by simp;omega) (fun e=> ?_))).trans (by simp [go_sem])
     have:=(HK.out _ e.symm).2
     omega
    clear h2 h3 HK hO
    have hw3:Below w0.heap.size w0 w3:=hw.trans (B3.mono hB0)
    go_wp2_with fail
    refine (cR.out _ _ _ hw3 (by have:=B3.size;omega) O3.out hlS).mono ?_
    rintro r w4 ⟨v4,rfl,h4,hb4⟩
    have O4:Hid (OwnN B v4 (M++[nm]++SV) w4):=h4
    have B4:Below B w w4:=B3.trans hb4
    clear h4 hb4 e6 O3 B3
    go_wp2
    exact ⟨⟨k+1,_,by omega,by go_num,hr3,B4,O4⟩,by simp [intOf];omega⟩
   ·have hr3:Hid (R=M++SV++tvss (ts.drop (k+1))):=by
     have h:=hr2.out
     rw [if_neg h1,List.nil_append] at h
     exact h
    have hlS:(M++SV).length≤1000000000:=by
     have h:=congrArg List.length hr3.out
     rw [List.length_append] at h
     omega
    clear hr2
    have O3:∀ o,OwnN B u0 M (wr.alloc o):=fun o=>World.ownsRow.alloc hO.out o
    go_wp2_with fail
    refine (cR.out _ _ _ (hBr.trans ((Below.refl _ _).alloc hBr.size _)) (by simp;omega) (O3 _) hlS).mono ?_
    rintro r w4 ⟨v4,rfl,h4,hb4⟩
    have O4:Hid (OwnN B v4 (M++SV) w4):=h4
    have B4:Below B w w4:=(hB.alloc hBB _).trans hb4
    clear h4 hb4 O3
    go_wp2
    exact ⟨⟨k+1,_,by omega,by go_num,hr3,B4,O4⟩,by simp [intOf];omega⟩
theorem uniN_len (rs:List (List ByteArray)):(uniN rs).length≤rs.flatten.length:=by
 unfold uniN cmpN
 unfold unb
 rw [List.length_map]
 refine Nat.le_trans (Lib.compact_length_le _) ?_
 unfold bts
 rw [List.length_map,srtN_len]
 exact Nat.le_refl _
section
mutual
def rts:Rx→List Fm
 | .mk k test subs=>test++rtss subs
def rtss:List Rx→List Fm
 | []=>[]
 | r::l=>rts r++rtss l
end
end
theorem rts_eq (r:Rx):rts r=r.test++rtss r.subs:=by
 cases r
 rw [rts]
 rfl
theorem rtss_nil:rtss []=[]:=by rw [rtss]
theorem rtss_cons (r:Rx) (l:List Rx):rtss (r::l)=rts r++rtss l:=by rw [rtss]
theorem tests_any (w0:World):∀ (m:Nat) (rs:List Rx) (V:Value) (w:World),SizeOf.sizeOf rs≤m→RxsAt w0 V rs→Below w0.heap.size w0 w→(rtss rs).length≤1000000000→
  Calls Tryz.prog 166 #[V] w fun e w'=>∃ v,e=.returned v∧OwnF w0 w.heap.size v (rtss rs) w'∧Below w.heap.size w w':=by
 obtain ⟨i0,hi,hz0,hz1,hz2⟩:=info_parts inFA
 intro m
 induction m with
 | zero=>intro rs V w hm;cases rs<;>simp at hm
 | succ m ih=>
  intro rs V w hm hV hw hlen
  obtain ⟨p,c,rfl,hl,hc,HX0⟩:=hV.form
  have HX:Hid (∀ i (hi:i<rs.length),∃ b off ut us,p=some ⟨b,off,none⟩∧b<w0.heap.size∧RxC w0 b (off+i*3) rs[i] ut us∧FmsAt w0 ut rs[i].test∧RxsAt w0 us rs[i].subs):=HX0
  have IH:Hid (∀ (rs:List Rx) (V:Value) (w:World),SizeOf.sizeOf rs≤m→RxsAt w0 V rs→Below w0.heap.size w0 w→(rtss rs).length≤1000000000→Calls Tryz.prog 166 #[V] w fun e w'=>∃ v,e=.returned v∧OwnF w0 w.heap.size v (rtss rs) w'∧Below w.heap.size w w'):=ih
  have HM:Hid (SizeOf.sizeOf rs≤m+1):=hm
  have hw0:=hw.size
  obtain ⟨R,eR⟩:∃ R:List Fm,Hid (rtss rs=R):=⟨_,rfl⟩
  rw [eR.out] at hlen ⊢
  clear hV HX0 ih hm
  obtain ⟨n,en⟩:∃ n:Nat,Hid (rs.length=n):=⟨_,rfl⟩
  rw [en.out] at hl hc ⊢
  go_enter Tryz.func166,Tryz.ntmps166
  go_wp2
  go_loopw [3,8] (fun v0 v wr=>∃ (k:Nat) (M:List Fm),k≤n∧v=.int .i64 k∧Hid (R=M++rtss (rs.drop k))∧Below w.heap.size w wr∧Hid (OwnF w0 w.heap.size v0 M wr)) (fun _ v _=>n - (intOf v).toNat)
  case atStart=>exact ⟨0,[],Nat.zero_le _,rfl,by rw [List.drop_zero];exact eR.out.symm,Below.refl _ _,OwnF.nil _ _ _⟩
  case round=>
   obtain ⟨k,M,hk,rfl,hr,hB,hO⟩:=hrel
   have hsz:=hB.size
   by_cases hlt:k<n
   case neg=>
    have c2:¬ (k:Int)<n:=by omega
    have hr2:Hid (R=M):=by
     have h:=hr.out
     rw [List.drop_eq_nil_of_le (by have:=en.out;omega),rtss_nil,List.append_nil] at h
     exact h
    go_wp2
    go_ret
    rw [hr2.out]
    exact ⟨_,rfl,hO.out,hB⟩
   have hlt':(k:Int)<n:=by omega
   have kx:k<rs.length:=by have:=en.out;omega
   obtain ⟨b,off,ut,us,rfl,hb,TC,NT,NS⟩:=HX.out k kx
   have hBr:Below w0.heap.size w0 wr:=hw.trans (hB.mono hw0)
   obtain ⟨a0,a1,a2⟩:=TC.below hBr hb
   have hr2:Hid (R=(M++rs[k].test)++rtss rs[k].subs++rtss (rs.drop (k+1))):=by
    have h:=hr.out
    rw [List.drop_eq_getElem_cons kx,rtss_cons,rts_eq] at h
    unfold Hid
    rw [h]
    simp [List.append_assoc]
   have hsz2:SizeOf.sizeOf rs[k].subs≤m:=by
    have h1:=mem_lt k kx
    have h2:=rs[k].subs_lt
    have h3:=HM.out
    omega
   clear TC hr
   generalize rs[k]=r at*
   obtain ⟨qs,q1,q2,q3⟩:=srcF NT
   have HQ:Hid (∀ W,Below w0.heap.size w0 W→SrcA W 10 ut r.test.length (flatF qs)):=q3
   have HQ2:Hid (∀ x∈qs,QAt w0 x):=q2
   have HQ1:Hid (qs.map Prod.fst=r.test):=q1
   obtain ⟨pt,ct,rfl, -⟩:=NT.form
   obtain ⟨pu,cu,rfl, -⟩:=NS.form
   obtain ⟨SV,hSV⟩:∃ SV:List Fm,Hid (rtss r.subs=SV):=⟨_,rfl⟩
   rw [hSV.out] at hr2
   have hlA:((M++r.test)++SV).length≤1000000000:=by
    have h:=congrArg List.length hr2.out
    rw [List.length_append] at h
    omega
   have hlS:SV.length≤1000000000:=by rw [List.length_append] at hlA;omega
   have hlM:M.length+r.test.length≤1000000000:=by rw [List.length_append,List.length_append] at hlA;omega
   have hlT:(M++r.test).length+SV.length≤1000000000:=by rw [List.length_append] at hlA;omega
   have cR:Hid (∀ W:World,Below w0.heap.size w0 W→Calls Tryz.prog 166 #[.slice pu r.subs.length cu] W fun e w'=>∃ v,e=.returned v∧OwnF w0 W.heap.size v SV w'∧Below W.heap.size W w'):=fun W h1=>by
    have h:=IH.out r.subs _ W hsz2 NS h1 (by rw [hSV.out];exact hlS)
    rw [hSV.out] at h
    exact h
   clear NT NS hsz2 hSV q1 q2 q3 hlA hlS
   obtain ⟨ps,p1,p2,p3⟩:=hO.out
   have HK:Hid (∀ q,u3.ownBlock=some q→w.heap.size≤q∧q<wr.heap.size):=fun q hq=>World.ownsRow.lt p3 q hq
   have HP3:Hid (wr.ownsRow w.heap.size 29 10 u3 M.length (flatF ps)):=p3
   have HP2:Hid (∀ x∈ps,QAt w0 x):=p2
   have HP1:Hid (ps.map Prod.fst=M):=p1
   clear p1 p2 p3 hO
   generalize eT:r.test=TL at*
   generalize r.subs.length=nu at*
   generalize r.k=rk at*
   have hBB:w0.heap.size≤wr.heap.size:=hBr.size
   go_wp2_with (at_builtin;refine wpList_append_srcA rfl _ _ 26 rfl w.heap.size 29 i0 (.agg #[.int .i64 0,.string ByteArray.empty,.int .i64 0,.slice none 0 0,.slice none 0 0,.int .i64 0,.int .i64 0,.bool false,.slice none 0 0,.slice none 0 0]) 10 152 Tryz.underlying26 hi hz0 hz1 hz2 rfl (by decide) _ _ _ rfl (World.ownsRow.alloc HP3.out _) _ TL.length (flatF qs) rfl (HQ.out _ (hBr.alloc hBB _)) (flatF_one HQ2.out) ?cc3 ?cc4 ?cc5 ?_)
   case cc3=>unfold maxLen;omega
   case cc4=>omega
   case cc5=>first | omega | (simp;omega)
   intro v' w3 h2 h3 _
   have O3:Hid (OwnF w0 w.heap.size v' (M++TL) w3):=OwnF.app HP1.out HP2.out HQ1.out HQ2.out h2
   have B3:Below w.heap.size w w3:=Below.grown (hB.alloc hsz _) h3 (by simp;omega) (fun q hq=>(HK.out q hq).1)
   have e2:w3.cell? ⟨wr.heap.size,2,none⟩=some (.slice pu nu cu):=by
    refine (World.cell?_of_block (h3.block wr.heap.size (by simp) (fun e=> ?_))).trans (by simp [go_sem])
    have:=(HK.out _ e.symm).2
    omega
   clear h2 h3 HK HP1 HP2 HP3 HQ HQ1 HQ2 a0 a1 a2 eT
   have hw3:Below w0.heap.size w0 w3:=hw.trans (B3.mono hw0)
   have hz3:=B3.size
   go_wp2_with fail
   refine (cR.out _ hw3).mono ?_
   rintro r w4 ⟨v4,rfl,h4,hb4⟩
   have B4:Below w.heap.size w w4:=B3.trans (hb4.mono hz3)
   have hz4:=B4.size
   obtain ⟨ps,p1,p2,p3⟩:=O3.out.bel hb4
   obtain ⟨qs,q1,q2,q3⟩:=h4.src
   have HK:Hid (∀ q,v'.ownBlock=some q→w.heap.size≤q∧q<w4.heap.size):=fun q hq=>World.ownsRow.lt p3 q hq
   have HP3:Hid (w4.ownsRow w.heap.size 29 10 v' (M++TL).length (flatF ps)):=p3
   have HP2:Hid (∀ x∈ps,QAt w0 x):=p2
   have HP1:Hid (ps.map Prod.fst=M++TL):=p1
   have HQ:Hid (SrcA w4 10 v4 SV.length (flatF qs)):=q3
   have HQ2:Hid (∀ x∈qs,QAt w0 x):=q2
   have HQ1:Hid (qs.map Prod.fst=SV):=q1
   clear p1 p2 p3 q1 q2 q3 O3 B3 hb4 h4 e2 cR
   generalize M++TL=MT at*
   go_wp2_with (at_builtin;refine wpList_append_srcA rfl _ _ 26 rfl w.heap.size 29 i0 (.agg #[.int .i64 0,.string ByteArray.empty,.int .i64 0,.slice none 0 0,.slice none 0 0,.int .i64 0,.int .i64 0,.bool false,.slice none 0 0,.slice none 0 0]) 10 152 Tryz.underlying26 hi hz0 hz1 hz2 rfl (by decide) _ _ _ rfl HP3.out _ SV.length (flatF qs) rfl HQ.out (flatF_one HQ2.out) ?cc3 ?cc4 ?cc5 ?_)
   case cc3=>unfold maxLen;omega
   case cc4=>omega
   case cc5=>first | omega | (simp;omega)
   intro v5 w5 h2 h3 _
   have O5:Hid (OwnF w0 w.heap.size v5 (MT++SV) w5):=OwnF.app HP1.out HP2.out HQ1.out HQ2.out h2
   have B5:Below w.heap.size w w5:=Below.grown B4 h3 (by omega) (fun q hq=>(HK.out q hq).1)
   clear h2 h3 HK HP1 HP2 HP3 HQ HQ1 HQ2
   go_wp2
   exact ⟨⟨k+1,_,by omega,by go_num,hr2,B5,O5⟩,by simp [intOf];omega⟩
def ptsF (f:Fm):List Fm:=if f.rgx=[] then f.subs else rtss f.rgx
theorem parts_any (w0:World) (f:Fm) (q:FQ) (hq:QAt w0 (f,q)) (w:World) (hw:Below w0.heap.size w0 w) (hl:(rtss f.rgx).length≤1000000000):
  Calls Tryz.prog 126 #[.agg #[.int .i64 f.k,.string f.nm,.int .i64 f.op,q.v,q.t,.int .i64 f.lo,.int .i64 f.hi,.bool f.opn,q.s,q.r]] w fun e w'=>∃ v,e=.returned v∧FmsAt w' v (ptsF f)∧Below w.heap.size w w':=by
 obtain ⟨uv,ut,us,ur⟩:=q
 obtain ⟨h1,h2,h3,h4⟩:=hq
 dsimp only at h1 h2 h3 h4 ⊢
 have HS:Hid (FmsAt w us f.subs):=h3.bel hw
 have cT:Hid (∀ W:World,Below w0.heap.size w0 W→Calls Tryz.prog 166 #[ur] W fun e w'=>∃ v,e=.returned v∧OwnF w0 W.heap.size v (rtss f.rgx) w'∧Below W.heap.size W w'):=fun W hW=>tests_any w0 _ f.rgx ur W (Nat.le_refl _) h4 hW hl
 obtain ⟨-,pv,cv,rfl, -, -⟩:=h1
 obtain ⟨pt,ct,rfl, -⟩:=h2.form
 obtain ⟨ps,cs,rfl, -⟩:=h3.form
 obtain ⟨pr,cr,rfl,lr, -⟩:=h4.form
 clear h2 h3 h4
 have hw0:=hw.size
 by_cases he:f.rgx=[]
 ·have e1:Hid (ptsF f=f.subs):=if_pos he
  have e2:f.rgx.length=0:=by rw [he];rfl
  rw [e1.out,e2]
  clear cT
  go_enter Tryz.func126,Tryz.ntmps126
  go_wp2
  go_ret
  exact ⟨_,rfl,HS.out.bel ((Below.refl _ _).alloc (Nat.le_refl _) _),(Below.refl _ _).alloc (Nat.le_refl _) _⟩
 ·have e1:Hid (ptsF f=rtss f.rgx):=if_neg he
  have e2:0<f.rgx.length:=List.length_pos_iff.2 he
  rw [e1.out]
  obtain ⟨n,en⟩:∃ n:Nat,f.rgx.length=n:=⟨_,rfl⟩
  rw [en] at e2 cT lr ⊢
  have e3:(0:Int)<n:=by omega
  go_enter Tryz.func126,Tryz.ntmps126
  go_wp2_with fail
  refine (cT.out _ (hw.trans ((Below.refl _ _).alloc hw0 _))).mono ?_
  rintro r w2 ⟨v,rfl,hO,hb⟩
  have hB:Below w.heap.size w w2:=((Below.refl _ _).alloc (Nat.le_refl _) _).trans (hb.mono (by simp))
  have hF:Hid (FmsAt w2 v (rtss f.rgx)):=hO.fms (hw.trans (hB.mono hw0)) (by omega)
  clear hO hb cT
  go_wp2
  go_ret
  exact ⟨_,rfl,hF.out,hB⟩
theorem own_monoB {w:World} {B B' e size n:Nat} {v:Value} {xs:List Value} (h:w.ownsRow B e size v n xs) (hB:B'≤B):w.ownsRow B' e size v n xs:=by
 obtain ⟨hL,⟨e,hn0⟩ | ⟨g,cap,cur,rfl,hg1,hg2⟩⟩:=h
 ·exact ⟨hL,.inl ⟨e,hn0⟩⟩
 ·exact ⟨hL,.inr ⟨g,cap,cur,rfl,Nat.le_trans hB hg1,hg2⟩⟩
theorem LstsAt.below {w w':World} {A:Value} {us:List Value} {rs:List (List ByteArray)} (h:LstsAt w A us rs) (hb:Below w.heap.size w w'):LstsAt w' A us rs:=by
 obtain ⟨h1,p,c,e,h2,h3⟩:=h
 refine ⟨h1,p,c,e,fun k hk=> ?_,fun k hk ky=>(h3 k hk ky).below hb⟩
 obtain ⟨b,off,e2,hB,hc⟩:=h2 k hk
 exact ⟨b,off,e2,Nat.lt_of_lt_of_le hB hb.size,(hb.cell (p:=⟨b,_,none⟩) hB).trans hc⟩
theorem lsts_two {W:World} {b:Nat} {u v:Value} {xs ys:List ByteArray} (hb:b<W.heap.size) (h0:W.cell? ⟨b,0,none⟩=some u) (h1:W.cell? ⟨b,1,none⟩=some v) (hx:NmsAt W u xs) (hy:NmsAt W v ys):LstsAt W (.slice (some ⟨b,0,none⟩) 2 2) [u,v] [xs,ys]:=by
 refine ⟨rfl,_,_,rfl,fun k hk=>⟨b,0,rfl,hb, ?_⟩,fun k hk ky=> ?_⟩
 ·rcases k with _ | _ | k
  ·exact h0
  ·exact h1
  ·simp at hk;omega
 ·rcases k with _ | _ | k
  ·exact hx
  ·exact hy
  ·simp at hk;omega
theorem freeLet_any (f:Fm) (q:FQ) (A:Value) (us:List Value) (rs:List (List ByteArray)) (w:World) (hA:LstsAt w A us rs) (hk:f.k=20∨f.k=21) (h2:1<us.length) (hy:1<rs.length) (h1:us.length≤1000000000) (B:Nat) (hO:OwnN B us[1] rs[1] w):
  Calls Tryz.prog 127 #[.agg #[.int .i64 f.k,.string f.nm,.int .i64 f.op,q.v,q.t,.int .i64 f.lo,.int .i64 f.hi,.bool f.opn,q.s,q.r],A] w fun e w'=>∃ v,e=.returned v∧OwnN B v rs[1] w'∧Below w.heap.size w w':=by
 obtain ⟨-,p,c,rfl,ha,hb⟩:=hA
 obtain ⟨b,off,rfl,hB,hc⟩:=ha 1 h2
 have HN:Hid (OwnN B us[1] rs[1] w):=hO
 clear ha hb hO
 generalize us[1]=u at*
 generalize rs[1]=r at*
 generalize us.length=n at*
 generalize f.lo=lo at*
 generalize f.hi=hi at*
 generalize f.nm=nm at*
 generalize f.opn=o at*
 generalize f.op=op at*
 generalize f.k=k at*
 obtain ⟨uv,ut,us,ur⟩:=q
 dsimp only
 have h2':(1:Int)<n:=by omega
 rcases hk with rfl | rfl
 ·go_enter Tryz.func127,Tryz.ntmps127
  go_wp2
  go_ret
  exact ⟨_,rfl,HN.out.bel ((Below.refl _ _).alloc (Nat.le_refl _) _),(Below.refl _ _).alloc (Nat.le_refl _) _⟩
 ·go_enter Tryz.func127,Tryz.ntmps127
  go_wp2
  go_ret
  exact ⟨_,rfl,HN.out.bel ((Below.refl _ _).alloc (Nat.le_refl _) _),(Below.refl _ _).alloc (Nat.le_refl _) _⟩
theorem freeOther_any (w0:World) (f:Fm) (q:FQ) (hq:QAt w0 (f,q)) (A:Value) (us:List Value) (rs:List (List ByteArray)) (w:World) (hw:Below w0.heap.size w0 w) (hA:LstsAt w A us rs) (h10:¬ f.k=10) (h19:¬ f.k=19) (h20:¬ f.k=20) (h21:¬ f.k=21)
  (l1:(tvss f.terms).length≤100000000) (l2:rs.flatten.length≤100000000) (l3:us.length≤1000000000):
  Calls Tryz.prog 127 #[.agg #[.int .i64 f.k,.string f.nm,.int .i64 f.op,q.v,q.t,.int .i64 f.lo,.int .i64 f.hi,.bool f.opn,q.s,q.r],A] w fun e w'=>∃ v,e=.returned v∧OwnN w.heap.size v (uniN [tvss f.terms,uniN rs]) w'∧Below w.heap.size w w':=by
 obtain ⟨uv,ut,uw,ur⟩:=q
 obtain ⟨h1,h2,h3,h4⟩:=hq
 dsimp only at h1 h2 h3 h4 ⊢
 obtain ⟨G,eG⟩:∃ G:List ByteArray,Hid (tvss f.terms=G):=⟨_,rfl⟩
 have cG:Hid (∀ W:World,Below w0.heap.size w0 W→Calls Tryz.prog 169 #[.slice none 0 0,ut] W fun e w'=>∃ v,e=.returned v∧OwnN W.heap.size v G w'∧Below W.heap.size W w'):=fun W hW=>by
  have h:=gathered_any w0 W.heap.size hW.size _ f.terms ut (.slice none 0 0) [] W (Nat.le_refl _) h2 hW (Nat.le_refl _) (OwnN.nil _ _) (by rw [List.nil_append];omega)
  rw [List.nil_append,eG.out] at h
  exact h
 rw [eG.out] at l1 ⊢
 have lu:(uniN rs).length≤100000000:=Nat.le_trans (uniN_len rs) l2
 have cU:Hid (∀ W:World,Below w.heap.size w W→Calls Tryz.prog 168 #[A] W fun e w'=>∃ v,e=.returned v∧OwnN W.heap.size v (uniN rs) w'∧Below W.heap.size W w'):=fun W hW=>union_any A us rs W (hA.below hW) (by omega) l3
 obtain ⟨-,pv,cv,rfl, -, -⟩:=h1
 obtain ⟨pt,ct,rfl, -⟩:=h2.form
 obtain ⟨ps,cs,rfl, -⟩:=h3.form
 obtain ⟨pr,cr,rfl,lr, -⟩:=h4.form
 obtain ⟨-,p,c,rfl, -⟩:=hA
 have hw0:=hw.size
 clear h2 h3 h4 eG
 generalize uniN rs=UR at*
 generalize f.vars.length=nv at*
 generalize f.terms.length=nt at*
 generalize f.subs.length=ns at*
 generalize f.rgx.length=nr at*
 generalize us.length=n at*
 generalize f.lo=lo at*
 generalize f.hi=hi at*
 generalize f.nm=nm at*
 generalize f.opn=o at*
 generalize f.op=op at*
 generalize f.k=k at*
 go_enter Tryz.func127,Tryz.ntmps127
 go_wp2_with fail
 refine (cG.out _ (hw.alloc hw0 _)).mono ?_
 rintro r w1 ⟨v1,rfl,hO1,hb1⟩
 have hB1:Below w.heap.size w w1:=((Below.refl _ _).alloc (Nat.le_refl _) _).trans (hb1.mono (by simp))
 have HN1:Hid (NmsAt w1 v1 G):=hO1.nms (by omega)
 have hz1:=hB1.size
 clear hO1 hb1 cG
 go_wp2_with fail
 refine (cU.out _ hB1).mono ?_
 rintro r w2 ⟨v2,rfl,hO2,hb2⟩
 have hB2:Below w.heap.size w w2:=hB1.trans (hb2.mono hz1)
 have HN2:Hid (NmsAt w2 v2 UR):=hO2.nms (by omega)
 have HN3:Hid (NmsAt w2 v1 G):=HN1.out.below hb2
 have hz2:=hB2.size
 clear hO2 hb2 cU HN1
 obtain ⟨p1,c1,rfl, -⟩:=HN3.out.form
 obtain ⟨p2,c2,rfl, -⟩:=HN2.out.form
 have HU:Hid (∀ (W:World) (b:Nat),Below w2.heap.size w2 W→b<W.heap.size→W.cell? ⟨b,0,none⟩=some (.slice p1 G.length c1)→W.cell? ⟨b,1,none⟩=some (.slice p2 UR.length c2)→Calls Tryz.prog 168 #[.slice (some ⟨b,0,none⟩) 2 2] W fun e w'=>∃ v,e=.returned v∧OwnN W.heap.size v (uniN [G,UR]) w'∧Below W.heap.size W w'):=fun W b h1 h2 h3 h4=>
  union_any _ _ _ W (lsts_two h2 h3 h4 (HN3.out.below h1) (HN2.out.below h1)) (by simp;omega) (by simp)
 have lg:(uniN [G,UR]).length≤9223372036854775807:=by have:=uniN_len [G,UR];simp at this;omega
 go_wp2_with fail
 refine (HU.out _ w2.heap.size ((Below.refl _ _).alloc (Nat.le_refl _) _) (by simp) (by simp [go_sem]) (by simp [go_sem])).mono ?_
 rintro r w3 ⟨v3,rfl,hO3,hb3⟩
 have hB3:Below w.heap.size w w3:=(hB2.alloc hz2 _).trans (hb3.mono (by simp;omega))
 have HN4:Hid (OwnN w.heap.size v3 (uniN [G,UR]) w3):=own_monoB hO3 (by simp;omega)
 clear hO3 hb3 HU
 go_wp2
 go_ret
 exact ⟨_,rfl,HN4.out,hB3⟩
theorem freeEx_any (f:Fm) (q:FQ) (w:World) (hv:NmsAt w q.v f.vars) (A:Value) (us:List Value) (rs:List (List ByteArray)) (hA:LstsAt w A us rs) (hk:f.k=10) (h2:0<us.length) (hy:0<rs.length) (h1:us.length≤1000000000) (l0:rs[0].length≤1000000000):
  Calls Tryz.prog 127 #[.agg #[.int .i64 f.k,.string f.nm,.int .i64 f.op,q.v,q.t,.int .i64 f.lo,.int .i64 f.hi,.bool f.opn,q.s,q.r],A] w fun e w'=>∃ v,e=.returned v∧OwnN w.heap.size v (rs[0].filter fun s=> !Lib.containsS f.vars s) w'∧Below w.heap.size w w':=by
 obtain ⟨-,p,c,rfl,ha,hb⟩:=hA
 obtain ⟨b,off,rfl,hB,hc⟩:=ha 0 h2
 rw [Nat.add_zero] at hc
 have HN:Hid (NmsAt w us[0] rs[0]):=hb 0 h2 hy
 clear ha hb
 obtain ⟨uv,ut,uw,ur⟩:=q
 dsimp only at hv ⊢
 have cW:Hid (∀ W:World,Below w.heap.size w W→Calls Tryz.prog 167 #[us[0],uv] W fun e w'=>∃ v,e=.returned v∧OwnN W.heap.size v (rs[0].filter fun s=> !Lib.containsS f.vars s) w'∧Below W.heap.size W w'):=fun W hW=>without_any _ _ _ _ W (HN.out.below hW) (hv.below hW) l0
 have lf:(rs[0].filter fun s=> !Lib.containsS f.vars s).length≤9223372036854775807:=Nat.le_trans (List.length_filter_le _ _) (by omega)
 generalize (rs[0].filter fun s=> !Lib.containsS f.vars s)=R at*
 obtain ⟨-,pv,cv,rfl, -, -⟩:=hv
 obtain ⟨-,px,cx,ex, -, -⟩:=HN.out
 rw [ex] at hc cW
 clear HN ex
 generalize rs[0].length=n0 at*
 generalize f.vars.length=nv at*
 generalize us.length=n at*
 generalize f.lo=lo at*
 generalize f.hi=hi at*
 generalize f.nm=nm at*
 generalize f.opn=o at*
 generalize f.op=op at*
 generalize f.k=k at*
 subst hk
 have h2':(0:Int)<n:=by omega
 go_enter Tryz.func127,Tryz.ntmps127
 go_upto_region 3 with fail
 go_region_with (go_at_call 167;refine (cW.out _ (by go_grown)).mono ?_;rintro e w1 ⟨v1,rfl,hO,hb1⟩;obtain ⟨hB1, -⟩:=bgX (n:=w.heap.size) (W0:=w) (by go_grown) (by go_size) hb1;have HF:Hid (OwnN w.heap.size v1 R w1):=own_monoB hO (by go_size);clear hb1 hO)
 all_goals (go_wp2;go_ret;exact ⟨_,rfl,HF.out,by first | assumption | go_grown⟩)
theorem NmsAt.drop1 {w:World} {b off n c:Nat} {vs:List ByteArray} (h:NmsAt w (.slice (some ⟨b,off,none⟩) n c) vs) (q:Option Addr) (hq:1<vs.length→q=some ⟨b,off+1,none⟩) (h1:1≤vs.length):NmsAt w (.slice q (vs.length - 1) (c - 1)) (vs.drop 1):=by
 obtain ⟨hl,p',c',e,hc,h⟩:=h
 injection e with e1 e2 e3
 subst e1 e3
 refine ⟨by rw [List.length_drop];omega,q,c - 1,by rw [List.length_drop],by rw [List.length_drop];omega, ?_⟩
 rcases h with h | ⟨b',off',h1',h2,h3⟩
 ·rw [h] at h1;simp at h1
 ·injection h1' with h1'
  injection h1' with q1 q2 q3
  subst q1 q2
  by_cases hl1:1<vs.length
  ·refine Or.inr ⟨b,off+1,hq hl1,h2,fun i hi=> ?_⟩
   rw [List.length_drop] at hi
   rw [List.getElem_drop,show off+1+i=off+(1+i) by omega]
   exact h3 (1+i) (by omega)
  ·exact Or.inl (List.drop_eq_nil_of_le (by omega))
theorem bdrewA {B:Nat} {a w:World} (n:Nat) (h:Below B a w):Below B a (w.drewN n):=⟨h.os,h.tape,h.output,h.size,h.block⟩
def fmE (f:Fm):Int:=if f.k<1∨22<f.k then 20 else if manyB f.k f.vars.length f.terms.length=true then 3 else if formedM (frm f.k) f.op f.lo f.hi f.nm f.opn f.vars f.terms.length f.subs.length f.rgx.length=false then 1 else if repN [] f.vars=true then 30 else if f.k=19 then (if Lib.containsS (f.vars.drop 1) f.nm=true then 30 else 0) else 0
theorem formed19 {op lo hi:Int} {nm:ByteArray} {o:Bool} {vars:List ByteArray} {nt ns nr:Nat} (h:formedM (frm 19) op lo hi nm o vars nt ns nr=true):1≤vars.length:=by
 unfold formedM at h
 simp only [Bool.and_eq_true,decide_eq_true_eq] at h
 have h1:=h.1.1
 have e:(frm 19).vl=1:=by decide
 rw [e] at h1
 omega
theorem cform_any (f:Fm) (V:Value) (pt ps pr:Option Addr) (ct cs cr:Nat) (w:World) (hV:NmsAt w V f.vars):
  Calls Tryz.prog 123 #[.agg #[.int .i64 f.k,.string f.nm,.int .i64 f.op,V,.slice pt f.terms.length ct,.int .i64 f.lo,.int .i64 f.hi,.bool f.opn,.slice ps f.subs.length cs,.slice pr f.rgx.length cr]] w fun r w'=>r=.returned (.int .i64 (fmE f))∧Below w.heap.size w w':=by
 have HV:Hid (NmsAt w V f.vars):=hV
 obtain ⟨pv,cv,rfl,hl,hc,HX0⟩:=hV.form
 have HX:Hid (∀ i (hi:i<f.vars.length),∃ b off,pv=some ⟨b,off,none⟩∧b<w.heap.size∧w.cell? ⟨b,off+i,none⟩=some (.string f.vars[i])):=HX0
 have cM:Hid (∀ W:World,Calls Tryz.prog 160 #[.agg #[.int .i64 f.k,.string f.nm,.int .i64 f.op,.slice pv f.vars.length cv,.slice pt f.terms.length ct,.int .i64 f.lo,.int .i64 f.hi,.bool f.opn,.slice ps f.subs.length cs,.slice pr f.rgx.length cr]] W fun r w'=>r=.returned (.bool (manyB f.k f.vars.length f.terms.length))∧Below W.heap.size W w'):=fun W=>toomany_any f.k f.op f.lo f.hi f.nm f.opn pv pt ps pr f.vars.length cv f.terms.length ct f.subs.length cs f.rgx.length cr W
 have cF:Hid (∀ W:World,Below w.heap.size w W→1≤f.k∧f.k≤22→Calls Tryz.prog 161 #[.agg #[.int .i64 f.k,.string f.nm,.int .i64 f.op,.slice pv f.vars.length cv,.slice pt f.terms.length ct,.int .i64 f.lo,.int .i64 f.hi,.bool f.opn,.slice ps f.subs.length cs,.slice pr f.rgx.length cr]] W fun r w'=>r=.returned (.bool (formedM (frm f.k) f.op f.lo f.hi f.nm f.opn f.vars f.terms.length f.subs.length f.rgx.length))∧Below W.heap.size W w'):=fun W hW hk=>formed_any f.k f.op f.lo f.hi f.nm f.opn _ f.vars pt ps pr f.terms.length ct f.subs.length cs f.rgx.length cr W (HV.out.below hW) hk
 have cR:Hid (∀ W:World,Below w.heap.size w W→Calls Tryz.prog 162 #[.slice pv f.vars.length cv] W fun r w'=>r=.returned (.bool (repN [] f.vars))∧w'=W):=fun W hW=>arep_any _ f.vars W (HV.out.below hW)
 have hE:Hid (fmE f=if f.k<1∨22<f.k then 20 else if manyB f.k f.vars.length f.terms.length=true then 3 else if formedM (frm f.k) f.op f.lo f.hi f.nm f.opn f.vars f.terms.length f.subs.length f.rgx.length=false then 1 else if repN [] f.vars=true then 30 else if f.k=19 then (if Lib.containsS (f.vars.drop 1) f.nm=true then 30 else 0) else 0):=rfl
 have h19:Hid (f.k=19→formedM (frm f.k) f.op f.lo f.hi f.nm f.opn f.vars f.terms.length f.subs.length f.rgx.length=true→1≤f.vars.length):=fun h1 h2=>by rw [h1] at h2;exact formed19 h2
 clear hV HX0
 generalize fmE f=E at*
 generalize manyB f.k f.vars.length f.terms.length=MB at*
 generalize formedM (frm f.k) f.op f.lo f.hi f.nm f.opn f.vars f.terms.length f.subs.length f.rgx.length=FB at*
 generalize repN [] f.vars=RB at*
 generalize f.k=k at*
 generalize f.op=op at*
 generalize f.lo=lo at*
 generalize f.hi=hi at*
 generalize f.nm=nm at*
 generalize f.opn=o at*
 generalize f.vars=vs at*
 generalize f.terms.length=nt at*
 generalize f.subs.length=ns at*
 generalize f.rgx.length=nr at*
 obtain ⟨nv,env⟩:∃ n:Nat,Hid (vs.length=n):=⟨_,rfl⟩
 rw [env.out] at HV cM cF cR hl hc h19 ⊢
 by_cases hk:k<1∨22<k
 ·have hE2:Hid (E=20):=by have h:=hE.out;rwa [if_pos hk] at h
  rcases hk with hk | hk
  ·go_enter Tryz.func123,Tryz.ntmps123
   go_wp2
   go_ret
   exact ⟨retI hE2.out.symm,by go_grown⟩
  ·have hk':¬ k<1:=by omega
   go_enter Tryz.func123,Tryz.ntmps123
   go_wp2
   go_ret
   exact ⟨retI hE2.out.symm,by go_grown⟩
 have hE1:Hid (E=if MB=true then 3 else if FB=false then 1 else if RB=true then 30 else if k=19 then (if Lib.containsS (vs.drop 1) nm=true then 30 else 0) else 0):=by have h:=hE.out;rwa [if_neg hk] at h
 have hk1:1≤k∧k≤22:=by omega
 have hk2:¬ k<1:=by omega
 have hk3:¬ 22<k:=by omega
 have cF1:Hid (∀ W:World,Below w.heap.size w W→Calls Tryz.prog 161 #[.agg #[.int .i64 k,.string nm,.int .i64 op,.slice pv nv cv,.slice pt nt ct,.int .i64 lo,.int .i64 hi,.bool o,.slice ps ns cs,.slice pr nr cr]] W fun r w'=>r=.returned (.bool FB)∧Below W.heap.size W w'):=fun W hW=>cF.out W hW hk1
 clear hE hk hk1 cF
 go_enter Tryz.func123,Tryz.ntmps123
 go_wp2_with fail
 refine (cM.out _).mono ?_
 rintro r w1 ⟨rfl,hb1⟩
 have x0:w1.cell? ⟨w.heap.size,0,none⟩=some (.int .i64 k):=(hb1.cell (p:=⟨w.heap.size,0,none⟩) (by simp)).trans (by simp [go_sem])
 have x1:w1.cell? ⟨w.heap.size,1,none⟩=some (.string nm):=(hb1.cell (p:=⟨w.heap.size,1,none⟩) (by simp)).trans (by simp [go_sem])
 have x2:w1.cell? ⟨w.heap.size,2,none⟩=some (.int .i64 op):=(hb1.cell (p:=⟨w.heap.size,2,none⟩) (by simp)).trans (by simp [go_sem])
 have x3:w1.cell? ⟨w.heap.size,3,none⟩=some (.slice pv nv cv):=(hb1.cell (p:=⟨w.heap.size,3,none⟩) (by simp)).trans (by simp [go_sem])
 have x4:w1.cell? ⟨w.heap.size,4,none⟩=some (.slice pt nt ct):=(hb1.cell (p:=⟨w.heap.size,4,none⟩) (by simp)).trans (by simp [go_sem])
 have x5:w1.cell? ⟨w.heap.size,5,none⟩=some (.int .i64 lo):=(hb1.cell (p:=⟨w.heap.size,5,none⟩) (by simp)).trans (by simp [go_sem])
 have x6:w1.cell? ⟨w.heap.size,6,none⟩=some (.int .i64 hi):=(hb1.cell (p:=⟨w.heap.size,6,none⟩) (by simp)).trans (by simp [go_sem])
 have x7:w1.cell? ⟨w.heap.size,7,none⟩=some (.bool o):=(hb1.cell (p:=⟨w.heap.size,7,none⟩) (by simp)).trans (by simp [go_sem])
 have x8:w1.cell? ⟨w.heap.size,8,none⟩=some (.slice ps ns cs):=(hb1.cell (p:=⟨w.heap.size,8,none⟩) (by simp)).trans (by simp [go_sem])
 have x9:w1.cell? ⟨w.heap.size,9,none⟩=some (.slice pr nr cr):=(hb1.cell (p:=⟨w.heap.size,9,none⟩) (by simp)).trans (by simp [go_sem])
 have hs1:w.heap.size<w1.heap.size:=by have:=hb1.size;simp at this;omega
 obtain ⟨hB1, -⟩:=bgX (n:=w.heap.size) (W0:=w) (by go_grown) (by go_size) hb1
 clear hb1 cM
 cases MB with
 | true=>
  have hE2:Hid (E=3):=by have h:=hE1.out;rwa [if_pos rfl] at h
  go_wp2
  go_ret
  exact ⟨retI hE2.out.symm,hB1⟩
 | false=>
 have hE2:Hid (E=if FB=false then 1 else if RB=true then 30 else if k=19 then (if Lib.containsS (vs.drop 1) nm=true then 30 else 0) else 0):=by have h:=hE1.out;rwa [if_neg (by decide)] at h
 clear hE1
 go_wp2_with fail
 refine (cF1.out _ hB1).mono ?_
 rintro r w2 ⟨rfl,hb2⟩
 have y0:=(hb2.cell (p:=⟨w.heap.size,0,none⟩) hs1).trans x0
 have y1:=(hb2.cell (p:=⟨w.heap.size,1,none⟩) hs1).trans x1
 have y2:=(hb2.cell (p:=⟨w.heap.size,2,none⟩) hs1).trans x2
 have y3:=(hb2.cell (p:=⟨w.heap.size,3,none⟩) hs1).trans x3
 have y4:=(hb2.cell (p:=⟨w.heap.size,4,none⟩) hs1).trans x4
 have y5:=(hb2.cell (p:=⟨w.heap.size,5,none⟩) hs1).trans x5
 have y6:=(hb2.cell (p:=⟨w.heap.size,6,none⟩) hs1).trans x6
 have y7:=(hb2.cell (p:=⟨w.heap.size,7,none⟩) hs1).trans x7
 have y8:=(hb2.cell (p:=⟨w.heap.size,8,none⟩) hs1).trans x8
 have y9:=(hb2.cell (p:=⟨w.heap.size,9,none⟩) hs1).trans x9
 have hs2:w.heap.size<w2.heap.size:=Nat.lt_of_lt_of_le hs1 hb2.size
 have hB2:Below w.heap.size w w2:=hB1.trans (hb2.mono hB1.size)
 clear hb2 cF1 hB1 hs1 x0 x1 x2 x3 x4 x5 x6 x7 x8 x9
 cases FB with
 | false=>
  have hE3:Hid (E=1):=by have h:=hE2.out;rwa [if_pos rfl] at h
  go_wp2
  go_ret
  exact ⟨retI hE3.out.symm,hB2⟩
 | true=>
 have hE3:Hid (E=if RB=true then 30 else if k=19 then (if Lib.containsS (vs.drop 1) nm=true then 30 else 0) else 0):=by have h:=hE2.out;rwa [if_neg (by decide)] at h
 have h19':Hid (k=19→1≤nv):=fun h=>h19.out h rfl
 clear hE2 h19
 go_wp2_with fail
 refine (cR.out _ hB2).mono ?_
 rintro r w3 ⟨rfl,rfl⟩
 clear cR
 cases RB with
 | true=>
  have hE4:Hid (E=30):=by have h:=hE3.out;rwa [if_pos rfl] at h
  go_wp2
  go_ret
  exact ⟨retI hE4.out.symm,hB2⟩
 | false=>
 have hE4:Hid (E=if k=19 then (if Lib.containsS (vs.drop 1) nm=true then 30 else 0) else 0):=by have h:=hE3.out;rwa [if_neg (by decide)] at h
 clear hE3
 by_cases hk19:k=19
 case neg=>
  have hE5:Hid (E=0):=by have h:=hE4.out;rwa [if_neg hk19] at h
  have hk':(k==19)=false:=by simp [hk19]
  go_upto_region 8 with fail
  go_quiet (fail)
  have K9:Below w.heap.size w (w3.drewN nq):=bdrewA nq hB2
  clear h19'
  go_wp2
  go_ret
  exact ⟨retI hE5.out.symm,K9⟩
 have hn1:=h19'.out hk19
 have hE5:Hid (E=if Lib.containsS (vs.drop 1) nm=true then 30 else 0):=by have h:=hE4.out;rwa [if_pos hk19] at h
 obtain ⟨b,off,rfl,hb, -⟩:=HX.out 0 (by have:=env.out;omega)
 have cK:Hid (∀ (W:World) (q:Option Addr),Below w.heap.size w W→(1<nv→q=some ⟨b,off+1,none⟩)→Calls Tryz.prog 163 #[.slice q (nv - 1) (cv - 1),.string nm] W fun e w'=>e=.returned (.bool (Lib.containsS (vs.drop 1) nm))∧w'=W):=fun W q hW hq=>by
  have h:=NmsAt.drop1 HV.out q (fun h=>hq (by have:=env.out;omega)) (by have:=env.out;omega)
  rw [env.out] at h
  exact acont_any _ _ nm W (h.below hW)
 generalize Lib.containsS (vs.drop 1) nm=CB at cK hE5
 subst hk19
 clear h19' hE4
 have hnv:(1:Int)≤nv:=by omega
 by_cases hc1:cv=1
 ·subst hc1
  have cK1:Hid (∀ m:Nat,Calls Tryz.prog 163 #[.slice (some ⟨b,off,none⟩) 0 0,.string nm] (w3.drewN m) fun e w'=>e=.returned (.bool CB)∧w'=w3.drewN m):=fun m=>by
   have h:=cK.out (w3.drewN m) (some ⟨b,off,none⟩) (bdrewA m hB2) (by omega)
   have e0:nv - 1=0:=by omega
   rwa [e0] at h
  go_upto_region 8 with fail
  go_quiet (first | (go_at_call 163;exact Calls.quiet_of_same (cK1.out _)))
  have K9:Below w.heap.size w (w3.drewN nq):=bdrewA nq hB2
  clear cK cK1
  cases CB with
  | true=>
   have hE6:Hid (E=30):=by have h:=hE5.out;rwa [if_pos rfl] at h
   go_wp2
   go_ret
   exact ⟨retI hE6.out.symm,K9⟩
  | false=>
   have hE6:Hid (E=0):=by have h:=hE5.out;rwa [if_neg (by decide)] at h
   go_wp2
   go_ret
   exact ⟨retI hE6.out.symm,K9⟩
 ·have cK1:Hid (∀ m:Nat,Calls Tryz.prog 163 #[.slice (some ⟨b,off+1,none⟩) (nv - 1) (cv - 1),.string nm] (w3.drewN m) fun e w'=>e=.returned (.bool CB)∧w'=w3.drewN m):=fun m=>cK.out (w3.drewN m) (some ⟨b,off+1,none⟩) (bdrewA m hB2) (fun _=>rfl)
  go_upto_region 8 with fail
  go_quiet (first | (go_at_call 163;exact Calls.quiet_of_same (cK1.out _)))
  have K9:Below w.heap.size w (w3.drewN nq):=bdrewA nq hB2
  clear cK cK1
  cases CB with
  | true=>
   have hE6:Hid (E=30):=by have h:=hE5.out;rwa [if_pos rfl] at h
   go_wp2
   go_ret
   exact ⟨retI hE6.out.symm,K9⟩
  | false=>
   have hE6:Hid (E=0):=by have h:=hE5.out;rwa [if_neg (by decide)] at h
   go_wp2
   go_ret
   exact ⟨retI hE6.out.symm,K9⟩
theorem nms_one {W:World} {b:Nat} {x:ByteArray} (hb:b<W.heap.size) (h:W.cell? ⟨b,0,none⟩=some (.string x)):NmsAt W (.slice (some ⟨b,0,none⟩) 1 1) [x]:=by
 refine ⟨by simp,_,_,rfl,by simp,Or.inr ⟨b,0,rfl,hb,fun i hi=> ?_⟩⟩
 rcases i with _ | i
 ·exact h
 ·simp at hi
theorem freeAgg_any (f:Fm) (q:FQ) (w:World) (hv:NmsAt w q.v f.vars) (A:Value) (hk:f.k=19) (h1:1≤f.vars.length) (l0:f.vars.length≤100000000):
  Calls Tryz.prog 127 #[.agg #[.int .i64 f.k,.string f.nm,.int .i64 f.op,q.v,q.t,.int .i64 f.lo,.int .i64 f.hi,.bool f.opn,q.s,q.r],A] w fun e w'=>∃ v,e=.returned v∧OwnN w.heap.size v (uniN [[f.nm],f.vars.drop 1]) w'∧Below w.heap.size w w':=by
 obtain ⟨uv,ut,uw,ur⟩:=q
 dsimp only at hv ⊢
 obtain ⟨pv,cv,rfl,hl,hc,HX⟩:=hv.form
 obtain ⟨b,off,rfl,hb, -⟩:=HX 0 h1
 have HU:Hid (∀ (W:World) (b1 b2:Nat) (q:Option Addr),Below w.heap.size w W→b1<W.heap.size→b2<W.heap.size→W.cell? ⟨b1,0,none⟩=some (.string f.nm)→W.cell? ⟨b2,0,none⟩=some (.slice (some ⟨b1,0,none⟩) 1 1)→W.cell? ⟨b2,1,none⟩=some (.slice q (f.vars.length - 1) (cv - 1))→(1<f.vars.length→q=some ⟨b,off+1,none⟩)→Calls Tryz.prog 168 #[.slice (some ⟨b2,0,none⟩) 2 2] W fun e w'=>∃ v,e=.returned v∧OwnN W.heap.size v (uniN [[f.nm],f.vars.drop 1]) w'∧Below W.heap.size W w'):=fun W b1 b2 q hW l1 l2 e1 e2 e3 hq=>
  union_any _ _ _ W (lsts_two l2 e2 e3 (nms_one l1 e1) ((NmsAt.drop1 hv q hq h1).below hW)) (by simp;omega) (by simp)
 have lf:(uniN [[f.nm],f.vars.drop 1]).length≤9223372036854775807:=by have h:=uniN_len [[f.nm],f.vars.drop 1];rw [List.flatten_cons,List.flatten_cons,List.flatten_nil,List.append_nil,List.length_append,List.length_drop,List.length_singleton] at h;omega
 clear hv HX
 generalize uniN [[f.nm],f.vars.drop 1]=R at*
 generalize f.vars.length=nv at*
 generalize f.lo=lo at*
 generalize f.hi=hi at*
 generalize f.nm=nm at*
 generalize f.opn=o at*
 generalize f.op=op at*
 generalize f.k=k at*
 subst hk
 have hnv:(1:Int)≤nv:=by omega
 by_cases hc1:cv=1
 ·subst hc1
  have HU1:Hid (∀ (W:World) (b1 b2:Nat),Below w.heap.size w W→b1<W.heap.size→b2<W.heap.size→W.cell? ⟨b1,0,none⟩=some (.string nm)→W.cell? ⟨b2,0,none⟩=some (.slice (some ⟨b1,0,none⟩) 1 1)→W.cell? ⟨b2,1,none⟩=some (.slice (some ⟨b,off,none⟩) 0 0)→Calls Tryz.prog 168 #[.slice (some ⟨b2,0,none⟩) 2 2] W fun e w'=>∃ v,e=.returned v∧OwnN W.heap.size v R w'∧Below W.heap.size W w'):=fun W b1 b2 a1 a2 a3 a4 a5 a6=>HU.out W b1 b2 (some ⟨b,off,none⟩) a1 a2 a3 a4 a5 (by rw [show nv - 1=0 by omega];exact a6) (by omega)
  clear HU
  go_enter Tryz.func127,Tryz.ntmps127
  go_upto_region 5 with fail
  go_region_with (go_at_call 168;refine (HU1.out _ (w.heap.size+1) (w.heap.size+2) (by go_grown) (by simp) (by simp) (by simp [go_sem]) (by simp [go_sem]) (by simp [go_sem])).mono ?_;rintro e w1 ⟨v1,rfl,hO,hb1⟩;obtain ⟨hB1, -⟩:=bgX (n:=w.heap.size) (W0:=w) (by go_grown) (by go_size) hb1;have HF:Hid (OwnN w.heap.size v1 R w1):=own_monoB hO (by go_size);clear hb1 hO)
  all_goals (go_wp2;go_ret;exact ⟨_,rfl,HF.out,by first | assumption | go_grown⟩)
 ·have HU1:Hid (∀ (W:World) (b1 b2:Nat),Below w.heap.size w W→b1<W.heap.size→b2<W.heap.size→W.cell? ⟨b1,0,none⟩=some (.string nm)→W.cell? ⟨b2,0,none⟩=some (.slice (some ⟨b1,0,none⟩) 1 1)→W.cell? ⟨b2,1,none⟩=some (.slice (some ⟨b,off+1,none⟩) (nv - 1) (cv - 1))→Calls Tryz.prog 168 #[.slice (some ⟨b2,0,none⟩) 2 2] W fun e w'=>∃ v,e=.returned v∧OwnN W.heap.size v R w'∧Below W.heap.size W w'):=fun W b1 b2 a1 a2 a3 a4 a5 a6=>HU.out W b1 b2 (some ⟨b,off+1,none⟩) a1 a2 a3 a4 a5 a6 (fun _=>rfl)
  clear HU
  go_enter Tryz.func127,Tryz.ntmps127
  go_upto_region 5 with fail
  go_region_with (go_at_call 168;refine (HU1.out _ (w.heap.size+1) (w.heap.size+2) (by go_grown) (by simp) (by simp) (by simp [go_sem]) (by simp [go_sem]) (by simp [go_sem])).mono ?_;rintro e w1 ⟨v1,rfl,hO,hb1⟩;obtain ⟨hB1, -⟩:=bgX (n:=w.heap.size) (W0:=w) (by go_grown) (by go_size) hb1;have HF:Hid (OwnN w.heap.size v1 R w1):=own_monoB hO (by go_size);clear hb1 hO)
  all_goals (go_wp2;go_ret;exact ⟨_,rfl,HF.out,by first | assumption | go_grown⟩)
theorem crx_any (r:Rx) (pt ps:Option Addr) (ct cs:Nat) (w:World):
  Calls Tryz.prog 165 #[.agg #[.int .i64 r.k,.slice pt r.test.length ct,.slice ps r.subs.length cs]] w fun e w'=>e=.returned (.int .i64 (rxE r))∧Below w.heap.size w w':=by
 obtain ⟨E,hE⟩:∃ E:Int,Hid (E=rxE r):=⟨_,rfl⟩
 have hE0:=hE.out
 unfold rxE at hE0
 rw [← hE.out]
 have hE1:Hid (E=if r.k<1∨5<r.k then 20 else if r.test.length≠(if r.k=2 then 1 else 0)∨r.subs.length≠(if r.k=3∨r.k=4 then 2 else if r.k=5 then 1 else 0) then 1 else 0):=hE0
 clear hE hE0
 generalize r.test.length=nt at*
 generalize r.subs.length=ns at*
 generalize r.k=k at*
 by_cases h1:k=1
 ·subst h1
  have hE2:Hid (E=if nt≠0∨ns≠0 then 1 else 0):=by have h:=hE1.out;unfold Hid;simpa using h
  clear hE1
  by_cases ha:nt=0
  case neg=>
   have hE3:Hid (E=1):=by have h:=hE2.out;rwa [if_pos (Or.inl ha)] at h
   have ha':¬ (nt:Int)=0:=by omega
   go_enter Tryz.func165,Tryz.ntmps165
   go_wp2
   go_ret
   exact ⟨retI hE3.out.symm,by go_grown⟩
  by_cases hb:ns=0
  case neg=>
   have hE3:Hid (E=1):=by have h:=hE2.out;rwa [if_pos (Or.inr hb)] at h
   have hb':¬ (ns:Int)=0:=by omega
   subst ha
   go_enter Tryz.func165,Tryz.ntmps165
   go_wp2
   go_ret
   exact ⟨retI hE3.out.symm,by go_grown⟩
  have hE3:Hid (E=0):=by have h:=hE2.out;rwa [if_neg (by omega)] at h
  subst ha hb
  go_enter Tryz.func165,Tryz.ntmps165
  go_wp2
  go_ret
  exact ⟨retI hE3.out.symm,by go_grown⟩
 by_cases h2:k=2
 ·subst h2
  have hE2:Hid (E=if nt≠1∨ns≠0 then 1 else 0):=by have h:=hE1.out;unfold Hid;simpa using h
  clear hE1
  by_cases ha:nt=1
  case neg=>
   have hE3:Hid (E=1):=by have h:=hE2.out;rwa [if_pos (Or.inl ha)] at h
   have ha':¬ (nt:Int)=1:=by omega
   go_enter Tryz.func165,Tryz.ntmps165
   go_wp2
   go_ret
   exact ⟨retI hE3.out.symm,by go_grown⟩
  by_cases hb:ns=0
  case neg=>
   have hE3:Hid (E=1):=by have h:=hE2.out;rwa [if_pos (Or.inr hb)] at h
   have hb':¬ (ns:Int)=0:=by omega
   subst ha
   go_enter Tryz.func165,Tryz.ntmps165
   go_wp2
   go_ret
   exact ⟨retI hE3.out.symm,by go_grown⟩
  have hE3:Hid (E=0):=by have h:=hE2.out;rwa [if_neg (by omega)] at h
  subst ha hb
  go_enter Tryz.func165,Tryz.ntmps165
  go_wp2
  go_ret
  exact ⟨retI hE3.out.symm,by go_grown⟩
 by_cases h3:k=3
 ·subst h3
  have hE2:Hid (E=if nt≠0∨ns≠2 then 1 else 0):=by have h:=hE1.out;unfold Hid;simpa using h
  clear hE1
  by_cases ha:nt=0
  case neg=>
   have hE3:Hid (E=1):=by have h:=hE2.out;rwa [if_pos (Or.inl ha)] at h
   have ha':¬ (nt:Int)=0:=by omega
   go_enter Tryz.func165,Tryz.ntmps165
   go_wp2
   go_ret
   exact ⟨retI hE3.out.symm,by go_grown⟩
  by_cases hb:ns=2
  case neg=>
   have hE3:Hid (E=1):=by have h:=hE2.out;rwa [if_pos (Or.inr hb)] at h
   have hb':¬ (ns:Int)=2:=by omega
   subst ha
   go_enter Tryz.func165,Tryz.ntmps165
   go_wp2
   go_ret
   exact ⟨retI hE3.out.symm,by go_grown⟩
  have hE3:Hid (E=0):=by have h:=hE2.out;rwa [if_neg (by omega)] at h
  subst ha hb
  go_enter Tryz.func165,Tryz.ntmps165
  go_wp2
  go_ret
  exact ⟨retI hE3.out.symm,by go_grown⟩
 by_cases h4:k=4
 ·subst h4
  have hE2:Hid (E=if nt≠0∨ns≠2 then 1 else 0):=by have h:=hE1.out;unfold Hid;simpa using h
  clear hE1
  by_cases ha:nt=0
  case neg=>
   have hE3:Hid (E=1):=by have h:=hE2.out;rwa [if_pos (Or.inl ha)] at h
   have ha':¬ (nt:Int)=0:=by omega
   go_enter Tryz.func165,Tryz.ntmps165
   go_wp2
   go_ret
   exact ⟨retI hE3.out.symm,by go_grown⟩
  by_cases hb:ns=2
  case neg=>
   have hE3:Hid (E=1):=by have h:=hE2.out;rwa [if_pos (Or.inr hb)] at h
   have hb':¬ (ns:Int)=2:=by omega
   subst ha
   go_enter Tryz.func165,Tryz.ntmps165
   go_wp2
   go_ret
   exact ⟨retI hE3.out.symm,by go_grown⟩
  have hE3:Hid (E=0):=by have h:=hE2.out;rwa [if_neg (by omega)] at h
  subst ha hb
  go_enter Tryz.func165,Tryz.ntmps165
  go_wp2
  go_ret
  exact ⟨retI hE3.out.symm,by go_grown⟩
 by_cases h5:k=5
 ·subst h5
  have hE2:Hid (E=if nt≠0∨ns≠1 then 1 else 0):=by have h:=hE1.out;unfold Hid;simpa using h
  clear hE1
  by_cases ha:nt=0
  case neg=>
   have hE3:Hid (E=1):=by have h:=hE2.out;rwa [if_pos (Or.inl ha)] at h
   have ha':¬ (nt:Int)=0:=by omega
   go_enter Tryz.func165,Tryz.ntmps165
   go_wp2
   go_ret
   exact ⟨retI hE3.out.symm,by go_grown⟩
  by_cases hb:ns=1
  case neg=>
   have hE3:Hid (E=1):=by have h:=hE2.out;rwa [if_pos (Or.inr hb)] at h
   have hb':¬ (ns:Int)=1:=by omega
   subst ha
   go_enter Tryz.func165,Tryz.ntmps165
   go_wp2
   go_ret
   exact ⟨retI hE3.out.symm,by go_grown⟩
  have hE3:Hid (E=0):=by have h:=hE2.out;rwa [if_neg (by omega)] at h
  subst ha hb
  go_enter Tryz.func165,Tryz.ntmps165
  go_wp2
  go_ret
  exact ⟨retI hE3.out.symm,by go_grown⟩
 have hE2:Hid (E=20):=by have h:=hE1.out;rwa [if_pos (by omega)] at h
 clear hE1
 go_enter Tryz.func165,Tryz.ntmps165
 go_wp2
 go_ret
 exact ⟨retI hE2.out.symm,by go_grown⟩
def andT (x:Int×(Int×Int)) (K:Int×Int→Int×(Int×Int)):Int×(Int×Int):=if x.1=0 then K x.2 else x
theorem andT_ne {E:Int} {q:Int×Int} {K:Int×Int→Int×(Int×Int)} (h:¬ E=0):andT (E,q) K=(E,q):=if_neg h
theorem andT_eq {q:Int×Int} {K:Int×Int→Int×(Int×Int)}:andT (0,q) K=K q:=if_pos rfl
theorem andT_assoc (x:Int×(Int×Int)) (F G:Int×Int→Int×(Int×Int)):andT (andT x F) G=andT x fun s=>andT (F s) G:=by
 unfold andT
 by_cases h:x.1=0
 ·rw [if_pos h,if_pos h]
 ·rw [if_neg h,if_neg h,if_neg h]
section
mutual
def frun (dep:Int) (s:Int×Int):Fm→Int×(Int×Int)
 | .mk k nm op vars terms lo hi opn subs rgx=>andT (meetE dep s,meetS dep s) fun s1=>andT (fmE (.mk k nm op vars terms lo hi opn subs rgx),s1) fun s1=>andT (truns (dep+1) s1 terms) fun s2=>andT (rruns (dep+1) s2 rgx) fun s3=>fruns (dep+1) s3 subs
def fruns (dep:Int) (s:Int×Int):List Fm→Int×(Int×Int)
 | []=>(0,s)
 | f::l=>andT (frun dep s f) fun s1=>fruns dep s1 l
def rrun (dep:Int) (s:Int×Int):Rx→Int×(Int×Int)
 | .mk k test subs=>andT (meetE dep s,meetS dep s) fun s1=>andT (rxE (.mk k test subs),s1) fun s1=>andT (fruns (dep+1) s1 test) fun s2=>rruns (dep+1) s2 subs
def rruns (dep:Int) (s:Int×Int):List Rx→Int×(Int×Int)
 | []=>(0,s)
 | r::l=>andT (rrun dep s r) fun s1=>rruns dep s1 l
end
end
theorem frun_eq (dep:Int) (s:Int×Int) (f:Fm):frun dep s f=andT (meetE dep s,meetS dep s) fun s1=>andT (fmE f,s1) fun s1=>andT (truns (dep+1) s1 f.terms) fun s2=>andT (rruns (dep+1) s2 f.rgx) fun s3=>fruns (dep+1) s3 f.subs:=by
 cases f
 rw [frun]
 rfl
theorem rrun_eq (dep:Int) (s:Int×Int) (r:Rx):rrun dep s r=andT (meetE dep s,meetS dep s) fun s1=>andT (rxE r,s1) fun s1=>andT (fruns (dep+1) s1 r.test) fun s2=>rruns (dep+1) s2 r.subs:=by
 cases r
 rw [rrun]
 rfl
theorem fruns_nil (dep:Int) (s:Int×Int):fruns dep s []=(0,s):=by rw [fruns]
theorem fruns_cons (dep:Int) (s:Int×Int) (f:Fm) (l:List Fm):fruns dep s (f::l)=andT (frun dep s f) fun s1=>fruns dep s1 l:=by rw [fruns]
theorem rruns_nil (dep:Int) (s:Int×Int):rruns dep s []=(0,s):=by rw [rruns]
theorem rruns_cons (dep:Int) (s:Int×Int) (r:Rx) (l:List Rx):rruns dep s (r::l)=andT (rrun dep s r) fun s1=>rruns dep s1 l:=by rw [rruns]
def Runs (w0:World) (T:Nat) (fn:FuncId) (dep:Int) (V:Value) (F:Int×Int→Int×(Int×Int)):Prop:=∀ (W:World) (s:Int×Int),Below w0.heap.size w0 W→Tal T s W→OkS s→0≤dep→dep≤25→
    Calls Tryz.prog fn #[.pointer (some ⟨T,0,none⟩),.int .i64 dep,V] W fun r w'=>r=.returned (.int .i64 (F s).1)∧KeepT T W w'∧Tal T (F s).2 w'∧OkS (F s).2
theorem terms_runs (w0:World) (T:Nat) (hT0:w0.heap.size≤T) (dep:Int) (V:Value) (ts:List Tm) (h:TmsAt w0 V ts):Runs w0 T 124 dep V (fun s=>truns dep s ts):=fun W s hW hT hs h0 h1=>
 (terms_any w0 T hT0 _ ts V dep s W (Nat.le_refl _) h hW hT hs h0 h1).mono fun r w' ⟨a,b,c⟩=>⟨a,b,c,truns_ok _ ts dep s (Nat.le_refl _) hs h0⟩
theorem felem (w0:World) (T:Nat) (hT0:w0.heap.size≤T) (dep:Int) (f:Fm) (uv ut us ur:Value) (hv:NmsAt w0 uv f.vars) (ht:TmsAt w0 ut f.terms) (hs:FmsAt w0 us f.subs) (hr:RxsAt w0 ur f.rgx)
  (IF:Runs w0 T 77 (dep+1) us (fun s=>fruns (dep+1) s f.subs)) (IR:Runs w0 T 125 (dep+1) ur (fun s=>rruns (dep+1) s f.rgx)):
  ∃ (E2:Int) (GT GR GF:Int×Int→Int×(Int×Int)) (pv pt ps pr:Option Addr) (nv nt ns nr cv ct cs cr:Nat),uv=.slice pv nv cv∧ut=.slice pt nt ct∧us=.slice ps ns cs∧ur=.slice pr nr cr∧
   Hid (∀ W:World,Below w0.heap.size w0 W→Calls Tryz.prog 123 #[.agg #[.int .i64 f.k,.string f.nm,.int .i64 f.op,.slice pv nv cv,.slice pt nt ct,.int .i64 f.lo,.int .i64 f.hi,.bool f.opn,.slice ps ns cs,.slice pr nr cr]] W fun r w'=>r=.returned (.int .i64 E2)∧Below W.heap.size W w')∧
   Hid (Runs w0 T 124 (dep+1) (.slice pt nt ct) GT)∧Hid (Runs w0 T 125 (dep+1) (.slice pr nr cr) GR)∧Hid (Runs w0 T 77 (dep+1) (.slice ps ns cs) GF)∧
   ∀ (q:Int×Int) (K:Int×Int→Int×(Int×Int)),andT (frun dep q f) K=andT (meetE dep q,meetS dep q) fun s1=>andT (E2,s1) fun s1=>andT (GT s1) fun s2=>andT (GR s2) fun s3=>andT (GF s3) K:=by
 have hv0:=hv
 have ht0:=ht
 obtain ⟨-,pv,cv,rfl, -, -⟩:=hv
 obtain ⟨pt,ct,rfl, -⟩:=ht.form
 obtain ⟨ps,cs,rfl, -⟩:=hs.form
 obtain ⟨pr,cr,rfl, -⟩:=hr.form
 refine ⟨fmE f,_,_,_,pv,pt,ps,pr,_,_,_,_,cv,ct,cs,cr,rfl,rfl,rfl,rfl,fun W hW=>cform_any f _ pt ps pr ct cs cr W (hv0.below hW),terms_runs w0 T hT0 _ _ _ ht0,IR,IF,fun q K=> ?_⟩
 rw [frun_eq]
 simp only [andT_assoc]
theorem relem (w0:World) (T:Nat) (hT0:w0.heap.size≤T) (dep:Int) (r:Rx) (ut us:Value) (ht:FmsAt w0 ut r.test) (hs:RxsAt w0 us r.subs)
  (IF:Runs w0 T 77 (dep+1) ut (fun s=>fruns (dep+1) s r.test)) (IR:Runs w0 T 125 (dep+1) us (fun s=>rruns (dep+1) s r.subs)):
  ∃ (E2:Int) (GF GR:Int×Int→Int×(Int×Int)) (pt ps:Option Addr) (nt ns ct cs:Nat),ut=.slice pt nt ct∧us=.slice ps ns cs∧
   Hid (∀ W:World,Below w0.heap.size w0 W→Calls Tryz.prog 165 #[.agg #[.int .i64 r.k,.slice pt nt ct,.slice ps ns cs]] W fun r w'=>r=.returned (.int .i64 E2)∧Below W.heap.size W w')∧
   Hid (Runs w0 T 77 (dep+1) (.slice pt nt ct) GF)∧Hid (Runs w0 T 125 (dep+1) (.slice ps ns cs) GR)∧
   ∀ (q:Int×Int) (K:Int×Int→Int×(Int×Int)),andT (rrun dep q r) K=andT (meetE dep q,meetS dep q) fun s1=>andT (E2,s1) fun s1=>andT (GF s1) fun s2=>andT (GR s2) K:=by
 obtain ⟨pt,ct,rfl, -⟩:=ht.form
 obtain ⟨ps,cs,rfl, -⟩:=hs.form
 refine ⟨rxE r,_,_,pt,ps,_,_,ct,cs,rfl,rfl,fun W _=>crx_any r pt ps ct cs W,IF,IR,fun q K=> ?_⟩
 rw [rrun_eq]
 simp only [andT_assoc]
theorem forms_step (w0:World) (T:Nat) (hT0:w0.heap.size≤T) (m:Nat) (IF:∀ (fs:List Fm) (V:Value) (dep:Int),SizeOf.sizeOf fs≤m→FmsAt w0 V fs→Runs w0 T 77 dep V (fun s=>fruns dep s fs)) (IR:∀ (rs:List Rx) (V:Value) (dep:Int),SizeOf.sizeOf rs≤m→RxsAt w0 V rs→Runs w0 T 125 dep V (fun s=>rruns dep s rs)) (xs:List Fm) (V:Value) (dep:Int) (hm:SizeOf.sizeOf xs≤m+1) (hV:FmsAt w0 V xs):Runs w0 T 77 dep V (fun s=>fruns dep s xs):=by
 intro w s hw hT hs hd0 hd1
 obtain ⟨p,c,rfl,hl,hc,HX0⟩:=hV.form
 have HX:Hid (∀ i (hi:i<xs.length),∃ b off uv ut us ur,p=some ⟨b,off,none⟩∧b<w0.heap.size∧FmC w0 b (off+i*10) xs[i] uv ut us ur∧NmsAt w0 uv xs[i].vars∧TmsAt w0 ut xs[i].terms∧FmsAt w0 us xs[i].subs∧RxsAt w0 ur xs[i].rgx):=HX0
 have HIF:Hid (∀ (fs:List Fm) (V:Value) (dep:Int),SizeOf.sizeOf fs≤m→FmsAt w0 V fs→Runs w0 T 77 dep V (fun s=>fruns dep s fs)):=IF
 have HIR:Hid (∀ (rs:List Rx) (V:Value) (dep:Int),SizeOf.sizeOf rs≤m→RxsAt w0 V rs→Runs w0 T 125 dep V (fun s=>rruns dep s rs)):=IR
 have HT:Hid (Tal T s w):=hT
 have HS:Hid (OkS s):=hs
 have hTw:T<w.heap.size:=hT.lt
 have HM:Hid (SizeOf.sizeOf xs≤m+1):=hm
 clear hV HX0 IF IR hT hs hm
 show Calls Tryz.prog _ _ _ fun r w'=>r=.returned (.int .i64 (fruns dep s xs).1)∧KeepT T w w'∧Tal T (fruns dep s xs).2 w'∧OkS (fruns dep s xs).2
 obtain ⟨R,eR⟩:∃ R:Int×(Int×Int),Hid (fruns dep s xs=R):=⟨_,rfl⟩
 rw [eR.out]
 obtain ⟨n,en⟩:∃ n:Nat,Hid (xs.length=n):=⟨_,rfl⟩
 rw [en.out] at hl hc ⊢
 go_enter Tryz.func77,Tryz.ntmps77
 go_wp2
 go_loopw [12] (fun v wr=>∃ (k:Nat) (q:Int×Int),k≤n∧v=.int .i64 k∧Hid (R=fruns dep q (xs.drop k))∧KeepT T w wr∧Hid (Tal T q wr)∧Hid (OkS q)) (fun v _=>n - (intOf v).toNat)
 case atStart=>exact ⟨0,s,Nat.zero_le _,rfl,by rw [List.drop_zero];exact eR.out.symm,KeepT.refl _ _,HT,HS⟩
 case round=>
  obtain ⟨i,q,hk,rfl,hr,hK,hT,hs⟩:=hrel
  by_cases hlt:i<n
  case neg=>
   have c2:¬ (i:Int)<n:=by omega
   have hr2:Hid (R=(0,q)):=by
    have h:=hr.out
    rw [List.drop_eq_nil_of_le (by have:=en.out;omega),fruns_nil] at h
    exact h
   go_wp2
   go_ret
   rw [hr2.out]
   exact ⟨rfl,hK,hT.out,hs.out⟩
  have hlt':(i:Int)<n:=by omega
  have kx:i<xs.length:=by have:=en.out;omega
  obtain ⟨b,off,uv,ut,us,ur,rfl,hb,TC,NV,NT,NS,NR⟩:=HX.out i kx
  have hTr:T<wr.heap.size:=Nat.lt_of_lt_of_le hTw hK.size
  have hBr:Below w0.heap.size w0 wr:=hw.trans ((hK.below (B:=w0.heap.size) hT0 (Nat.le_of_lt hTw)))
  obtain ⟨a0,a1,a2,a3,a4,a5,a6,a7,a8,a9⟩:=TC.below hBr hb
  have hm1:=mem_lt i kx
  have hm3:=HM.out
  obtain ⟨E2,GT,GR,GF,pv,pt,ps,pr,nv,nt,ns,nr,cv,ct,cs,cr,rfl,rfl,rfl,rfl,cC,cT,cR,cF,hfe⟩:=felem w0 T hT0 dep xs[i] uv ut us ur NV NT NS NR (HIF.out _ _ _ (by have:=xs[i].subs_lt;omega) NS) (HIR.out _ _ _ (by have:=xs[i].rgx_lt;omega) NR)
  have hr2:Hid (R=andT (meetE dep q,meetS dep q) fun s1=>andT (E2,s1) fun s1=>andT (GT s1) fun s1=>andT (GR s1) fun s1=>andT (GF s1) fun s1=>fruns dep s1 (xs.drop (i+1))):=by
   have h:=hr.out
   rw [List.drop_eq_getElem_cons kx,fruns_cons,hfe] at h
   exact h
  clear TC hr hfe hm1 hm3
  generalize xs[i]=x at*
  have cM:Hid (∀ W:World,Tal T q W→Calls Tryz.prog 122 #[.pointer (some ⟨T,0,none⟩),.int .i64 dep] W fun r w'=>r=.returned (.int .i64 (meetE dep q))∧KeepT T W w'∧Tal T (meetS dep q) w'):=fun W hW=>meet_any T dep q W hW hs.out ⟨hd0,hd1⟩
  have HO1:Hid (OkS (meetS dep q)):=meetS_ok hs.out hd0
  have HL:Hid (meetE dep q=0→dep≤24):=meetE_le
  generalize meetS dep q=Q1 at*
  generalize meetE dep q=E1 at*
  generalize x.lo=lo at*
  generalize x.hi=hi at*
  generalize x.nm=nm at*
  generalize x.opn=o at*
  generalize x.op=op at*
  generalize x.k=k at*
  have hTne:wr.heap.size≠T:=by omega
  go_wp2_with fail
  refine (cM.out _ (Tal.alloc hT.out _)).mono ?_
  rintro r w2 ⟨rfl,hk2,ht2⟩
  have e0:w2.cell? ⟨wr.heap.size,0,none⟩=some (.int .i64 k):=(hk2.cell (p:=⟨wr.heap.size,0,none⟩) (by simp) hTne).trans (by simp [go_sem])
  have e1:w2.cell? ⟨wr.heap.size,1,none⟩=some (.string nm):=(hk2.cell (p:=⟨wr.heap.size,1,none⟩) (by simp) hTne).trans (by simp [go_sem])
  have e2:w2.cell? ⟨wr.heap.size,2,none⟩=some (.int .i64 op):=(hk2.cell (p:=⟨wr.heap.size,2,none⟩) (by simp) hTne).trans (by simp [go_sem])
  have e3:w2.cell? ⟨wr.heap.size,3,none⟩=some (.slice pv nv cv):=(hk2.cell (p:=⟨wr.heap.size,3,none⟩) (by simp) hTne).trans (by simp [go_sem])
  have e4:w2.cell? ⟨wr.heap.size,4,none⟩=some (.slice pt nt ct):=(hk2.cell (p:=⟨wr.heap.size,4,none⟩) (by simp) hTne).trans (by simp [go_sem])
  have e5:w2.cell? ⟨wr.heap.size,5,none⟩=some (.int .i64 lo):=(hk2.cell (p:=⟨wr.heap.size,5,none⟩) (by simp) hTne).trans (by simp [go_sem])
  have e6:w2.cell? ⟨wr.heap.size,6,none⟩=some (.int .i64 hi):=(hk2.cell (p:=⟨wr.heap.size,6,none⟩) (by simp) hTne).trans (by simp [go_sem])
  have e7:w2.cell? ⟨wr.heap.size,7,none⟩=some (.bool o):=(hk2.cell (p:=⟨wr.heap.size,7,none⟩) (by simp) hTne).trans (by simp [go_sem])
  have e8:w2.cell? ⟨wr.heap.size,8,none⟩=some (.slice ps ns cs):=(hk2.cell (p:=⟨wr.heap.size,8,none⟩) (by simp) hTne).trans (by simp [go_sem])
  have e9:w2.cell? ⟨wr.heap.size,9,none⟩=some (.slice pr nr cr):=(hk2.cell (p:=⟨wr.heap.size,9,none⟩) (by simp) hTne).trans (by simp [go_sem])
  have hK2:KeepT T w w2:=hK.trans ((KeepT.of ((Below.refl _ _).alloc (Nat.le_refl _) _)).trans hk2)
  have hz2:wr.heap.size<w2.heap.size:=by have:=hk2.size;simp at this;omega
  have HT2:Hid (Tal T Q1 w2):=ht2
  clear hk2 ht2 a0 a1 a2 a3 a4 a5 a6 a7 a8 a9 cM
  by_cases hE1:E1=0
  case neg=>
   have hE1'':(E1 != 0)=true:=by simp [hE1]
   have hR:Hid (R=(E1,Q1)):=hr2.out.trans (andT_ne hE1)
   go_wp2
   go_ret
   rw [hR.out]
   exact ⟨rfl,hK2,HT2.out,HO1.out⟩
  have hd2:dep≤24:=HL.out hE1
  subst hE1
  have hr3:Hid (R=_):=hr2.out.trans andT_eq
  have hB2:Below w0.heap.size w0 w2:=hw.trans (hK2.below hT0 (Nat.le_of_lt hTw))
  clear hr2 HL
  go_wp2_with fail
  refine (cC.out _ hB2).mono ?_
  rintro r w3 ⟨rfl,hb3⟩
  have g4:=(hb3.cell (p:=⟨wr.heap.size,4,none⟩) hz2).trans e4
  have g9:=(hb3.cell (p:=⟨wr.heap.size,9,none⟩) hz2).trans e9
  have g8:=(hb3.cell (p:=⟨wr.heap.size,8,none⟩) hz2).trans e8
  have hK3:KeepT T w w3:=hK2.trans (KeepT.of hb3)
  have HT3:Hid (Tal T Q1 w3):=HT2.out.below hb3
  have hB3:Below w0.heap.size w0 w3:=hw.trans (hK3.below hT0 (Nat.le_of_lt hTw))
  have hz3:wr.heap.size<w3.heap.size:=Nat.lt_of_lt_of_le hz2 hb3.size
  clear cC e0 e1 e2 e3 e4 e5 e6 e7 e8 e9 hb3 HT2 hB2
  by_cases hE2:E2=0
  case neg=>
   have hE2'':(E2 != 0)=true:=by simp [hE2]
   have hR:Hid (R=(E2,Q1)):=hr3.out.trans (andT_ne hE2)
   go_wp2
   go_ret
   rw [hR.out]
   exact ⟨rfl,hK3,HT3.out,HO1.out⟩
  subst hE2
  have hr4:Hid (R=_):=hr3.out.trans andT_eq
  clear hr3
  have hct:=cT.out w3 Q1 hB3 HT3.out HO1.out (by omega) (by omega)
  obtain ⟨⟨E3,Q3⟩,eq0⟩:∃ z,GT Q1=z:=⟨_,rfl⟩
  rw [eq0] at hct
  have hs0:Hid (R=andT (E3,Q3) fun s1=>andT (GR s1) fun s1=>andT (GF s1) fun s1=>fruns dep s1 (xs.drop (i+1))):=by have h:=hr4.out;rw [eq0] at h;exact h
  have CT:Hid (Calls Tryz.prog 124 #[.pointer (some ⟨T,0,none⟩),.int .i64 (dep+1),.slice pt nt ct] w3 fun r w'=>r=.returned (.int .i64 E3)∧KeepT T w3 w'∧Tal T Q3 w'∧OkS Q3):=hct
  clear hct cT eq0 hr4
  go_wp2_with fail
  refine CT.out.mono ?_
  rintro r w4 ⟨rfl,hk4,ht4,ho4⟩
  have hK4:KeepT T w w4:=hK3.trans hk4
  have HT4:Hid (Tal T Q3 w4):=ht4
  have HO4:Hid (OkS Q3):=ho4
  have hB4:Below w0.heap.size w0 w4:=hw.trans (hK4.below hT0 (Nat.le_of_lt hTw))
  have hz4:wr.heap.size<w4.heap.size:=Nat.lt_of_lt_of_le hz3 hk4.size
  have ga9:=(hk4.cell (p:=⟨wr.heap.size,9,none⟩) hz3 hTne).trans g9
  have ga8:=(hk4.cell (p:=⟨wr.heap.size,8,none⟩) hz3 hTne).trans g8
  clear CT hk4 ht4 ho4 g4 g9 g8
  by_cases hE3:E3=0
  case neg=>
   have hE':(E3 != 0)=true:=by simp [hE3]
   have hR:Hid (R=(E3,Q3)):=hs0.out.trans (andT_ne hE3)
   go_wp2
   go_ret
   rw [hR.out]
   exact ⟨rfl,hK4,HT4.out,HO4.out⟩
  subst hE3
  have hr5:Hid (R=_):=hs0.out.trans andT_eq
  clear hs0
  have hct:=cR.out w4 Q3 hB4 HT4.out HO4.out (by omega) (by omega)
  obtain ⟨⟨E4,Q4⟩,eq1⟩:∃ z,GR Q3=z:=⟨_,rfl⟩
  rw [eq1] at hct
  have hs1:Hid (R=andT (E4,Q4) fun s1=>andT (GF s1) fun s1=>fruns dep s1 (xs.drop (i+1))):=by have h:=hr5.out;rw [eq1] at h;exact h
  have CT:Hid (Calls Tryz.prog 125 #[.pointer (some ⟨T,0,none⟩),.int .i64 (dep+1),.slice pr nr cr] w4 fun r w'=>r=.returned (.int .i64 E4)∧KeepT T w4 w'∧Tal T Q4 w'∧OkS Q4):=hct
  clear hct cR eq1 hr5
  go_wp2_with fail
  refine CT.out.mono ?_
  rintro r w5 ⟨rfl,hk5,ht5,ho5⟩
  have hK5:KeepT T w w5:=hK4.trans hk5
  have HT5:Hid (Tal T Q4 w5):=ht5
  have HO5:Hid (OkS Q4):=ho5
  have hB5:Below w0.heap.size w0 w5:=hw.trans (hK5.below hT0 (Nat.le_of_lt hTw))
  have hz5:wr.heap.size<w5.heap.size:=Nat.lt_of_lt_of_le hz4 hk5.size
  have gb8:=(hk5.cell (p:=⟨wr.heap.size,8,none⟩) hz4 hTne).trans ga8
  clear CT hk5 ht5 ho5 ga9 ga8
  by_cases hE4:E4=0
  case neg=>
   have hE':(E4 != 0)=true:=by simp [hE4]
   have hR:Hid (R=(E4,Q4)):=hs1.out.trans (andT_ne hE4)
   go_wp2
   go_ret
   rw [hR.out]
   exact ⟨rfl,hK5,HT5.out,HO5.out⟩
  subst hE4
  have hr6:Hid (R=_):=hs1.out.trans andT_eq
  clear hs1
  have hct:=cF.out w5 Q4 hB5 HT5.out HO5.out (by omega) (by omega)
  obtain ⟨⟨E5,Q5⟩,eq2⟩:∃ z,GF Q4=z:=⟨_,rfl⟩
  rw [eq2] at hct
  have hs2:Hid (R=andT (E5,Q5) fun s1=>fruns dep s1 (xs.drop (i+1))):=by have h:=hr6.out;rw [eq2] at h;exact h
  have CT:Hid (Calls Tryz.prog 77 #[.pointer (some ⟨T,0,none⟩),.int .i64 (dep+1),.slice ps ns cs] w5 fun r w'=>r=.returned (.int .i64 E5)∧KeepT T w5 w'∧Tal T Q5 w'∧OkS Q5):=hct
  clear hct cF eq2 hr6
  go_wp2_with fail
  refine CT.out.mono ?_
  rintro r w6 ⟨rfl,hk6,ht6,ho6⟩
  have hK6:KeepT T w w6:=hK5.trans hk6
  have HT6:Hid (Tal T Q5 w6):=ht6
  have HO6:Hid (OkS Q5):=ho6
  have hB6:Below w0.heap.size w0 w6:=hw.trans (hK6.below hT0 (Nat.le_of_lt hTw))
  have hz6:wr.heap.size<w6.heap.size:=Nat.lt_of_lt_of_le hz5 hk6.size
  clear CT hk6 ht6 ho6 gb8
  by_cases hE5:E5=0
  case neg=>
   have hE':(E5 != 0)=true:=by simp [hE5]
   have hR:Hid (R=(E5,Q5)):=hs2.out.trans (andT_ne hE5)
   go_wp2
   go_ret
   rw [hR.out]
   exact ⟨rfl,hK6,HT6.out,HO6.out⟩
  subst hE5
  have hr7:Hid (R=_):=hs2.out.trans andT_eq
  clear hs2
  go_wp2
  exact ⟨⟨i+1,Q5,by omega,by go_num,hr7,hK6,HT6,HO6⟩,by simp [intOf];omega⟩
theorem regs_step (w0:World) (T:Nat) (hT0:w0.heap.size≤T) (m:Nat) (IF:∀ (fs:List Fm) (V:Value) (dep:Int),SizeOf.sizeOf fs≤m→FmsAt w0 V fs→Runs w0 T 77 dep V (fun s=>fruns dep s fs)) (IR:∀ (rs:List Rx) (V:Value) (dep:Int),SizeOf.sizeOf rs≤m→RxsAt w0 V rs→Runs w0 T 125 dep V (fun s=>rruns dep s rs)) (xs:List Rx) (V:Value) (dep:Int) (hm:SizeOf.sizeOf xs≤m+1) (hV:RxsAt w0 V xs):Runs w0 T 125 dep V (fun s=>rruns dep s xs):=by
 intro w s hw hT hs hd0 hd1
 obtain ⟨p,c,rfl,hl,hc,HX0⟩:=hV.form
 have HX:Hid (∀ i (hi:i<xs.length),∃ b off ut us,p=some ⟨b,off,none⟩∧b<w0.heap.size∧RxC w0 b (off+i*3) xs[i] ut us∧FmsAt w0 ut xs[i].test∧RxsAt w0 us xs[i].subs):=HX0
 have HIF:Hid (∀ (fs:List Fm) (V:Value) (dep:Int),SizeOf.sizeOf fs≤m→FmsAt w0 V fs→Runs w0 T 77 dep V (fun s=>fruns dep s fs)):=IF
 have HIR:Hid (∀ (rs:List Rx) (V:Value) (dep:Int),SizeOf.sizeOf rs≤m→RxsAt w0 V rs→Runs w0 T 125 dep V (fun s=>rruns dep s rs)):=IR
 have HT:Hid (Tal T s w):=hT
 have HS:Hid (OkS s):=hs
 have hTw:T<w.heap.size:=hT.lt
 have HM:Hid (SizeOf.sizeOf xs≤m+1):=hm
 clear hV HX0 IF IR hT hs hm
 show Calls Tryz.prog _ _ _ fun r w'=>r=.returned (.int .i64 (rruns dep s xs).1)∧KeepT T w w'∧Tal T (rruns dep s xs).2 w'∧OkS (rruns dep s xs).2
 obtain ⟨R,eR⟩:∃ R:Int×(Int×Int),Hid (rruns dep s xs=R):=⟨_,rfl⟩
 rw [eR.out]
 obtain ⟨n,en⟩:∃ n:Nat,Hid (xs.length=n):=⟨_,rfl⟩
 rw [en.out] at hl hc ⊢
 go_enter Tryz.func125,Tryz.ntmps125
 go_wp2
 go_loopw [12] (fun v wr=>∃ (k:Nat) (q:Int×Int),k≤n∧v=.int .i64 k∧Hid (R=rruns dep q (xs.drop k))∧KeepT T w wr∧Hid (Tal T q wr)∧Hid (OkS q)) (fun v _=>n - (intOf v).toNat)
 case atStart=>exact ⟨0,s,Nat.zero_le _,rfl,by rw [List.drop_zero];exact eR.out.symm,KeepT.refl _ _,HT,HS⟩
 case round=>
  obtain ⟨i,q,hk,rfl,hr,hK,hT,hs⟩:=hrel
  by_cases hlt:i<n
  case neg=>
   have c2:¬ (i:Int)<n:=by omega
   have hr2:Hid (R=(0,q)):=by
    have h:=hr.out
    rw [List.drop_eq_nil_of_le (by have:=en.out;omega),rruns_nil] at h
    exact h
   go_wp2
   go_ret
   rw [hr2.out]
   exact ⟨rfl,hK,hT.out,hs.out⟩
  have hlt':(i:Int)<n:=by omega
  have kx:i<xs.length:=by have:=en.out;omega
  obtain ⟨b,off,ut,us,rfl,hb,TC,NT,NS⟩:=HX.out i kx
  have hTr:T<wr.heap.size:=Nat.lt_of_lt_of_le hTw hK.size
  have hBr:Below w0.heap.size w0 wr:=hw.trans ((hK.below (B:=w0.heap.size) hT0 (Nat.le_of_lt hTw)))
  obtain ⟨a0,a1,a2⟩:=TC.below hBr hb
  have hm1:=mem_lt i kx
  have hm3:=HM.out
  obtain ⟨E2,GF,GR,pt,ps,nt,ns,ct,cs,rfl,rfl,cC,cF,cR,hfe⟩:=relem w0 T hT0 dep xs[i] ut us NT NS (HIF.out _ _ _ (by have:=xs[i].test_lt;omega) NT) (HIR.out _ _ _ (by have:=xs[i].subs_lt;omega) NS)
  have hr2:Hid (R=andT (meetE dep q,meetS dep q) fun s1=>andT (E2,s1) fun s1=>andT (GF s1) fun s1=>andT (GR s1) fun s1=>rruns dep s1 (xs.drop (i+1))):=by
   have h:=hr.out
   rw [List.drop_eq_getElem_cons kx,rruns_cons,hfe] at h
   exact h
  clear TC hr hfe hm1 hm3
  generalize xs[i]=x at*
  have cM:Hid (∀ W:World,Tal T q W→Calls Tryz.prog 122 #[.pointer (some ⟨T,0,none⟩),.int .i64 dep] W fun r w'=>r=.returned (.int .i64 (meetE dep q))∧KeepT T W w'∧Tal T (meetS dep q) w'):=fun W hW=>meet_any T dep q W hW hs.out ⟨hd0,hd1⟩
  have HO1:Hid (OkS (meetS dep q)):=meetS_ok hs.out hd0
  have HL:Hid (meetE dep q=0→dep≤24):=meetE_le
  generalize meetS dep q=Q1 at*
  generalize meetE dep q=E1 at*
  generalize x.k=k at*
  have hTne:wr.heap.size≠T:=by omega
  go_wp2_with fail
  refine (cM.out _ (Tal.alloc hT.out _)).mono ?_
  rintro r w2 ⟨rfl,hk2,ht2⟩
  have e0:w2.cell? ⟨wr.heap.size,0,none⟩=some (.int .i64 k):=(hk2.cell (p:=⟨wr.heap.size,0,none⟩) (by simp) hTne).trans (by simp [go_sem])
  have e1:w2.cell? ⟨wr.heap.size,1,none⟩=some (.slice pt nt ct):=(hk2.cell (p:=⟨wr.heap.size,1,none⟩) (by simp) hTne).trans (by simp [go_sem])
  have e2:w2.cell? ⟨wr.heap.size,2,none⟩=some (.slice ps ns cs):=(hk2.cell (p:=⟨wr.heap.size,2,none⟩) (by simp) hTne).trans (by simp [go_sem])
  have hK2:KeepT T w w2:=hK.trans ((KeepT.of ((Below.refl _ _).alloc (Nat.le_refl _) _)).trans hk2)
  have hz2:wr.heap.size<w2.heap.size:=by have:=hk2.size;simp at this;omega
  have HT2:Hid (Tal T Q1 w2):=ht2
  clear hk2 ht2 a0 a1 a2 cM
  by_cases hE1:E1=0
  case neg=>
   have hE1'':(E1 != 0)=true:=by simp [hE1]
   have hR:Hid (R=(E1,Q1)):=hr2.out.trans (andT_ne hE1)
   go_wp2
   go_ret
   rw [hR.out]
   exact ⟨rfl,hK2,HT2.out,HO1.out⟩
  have hd2:dep≤24:=HL.out hE1
  subst hE1
  have hr3:Hid (R=_):=hr2.out.trans andT_eq
  have hB2:Below w0.heap.size w0 w2:=hw.trans (hK2.below hT0 (Nat.le_of_lt hTw))
  clear hr2 HL
  go_wp2_with fail
  refine (cC.out _ hB2).mono ?_
  rintro r w3 ⟨rfl,hb3⟩
  have g1:=(hb3.cell (p:=⟨wr.heap.size,1,none⟩) hz2).trans e1
  have g2:=(hb3.cell (p:=⟨wr.heap.size,2,none⟩) hz2).trans e2
  have hK3:KeepT T w w3:=hK2.trans (KeepT.of hb3)
  have HT3:Hid (Tal T Q1 w3):=HT2.out.below hb3
  have hB3:Below w0.heap.size w0 w3:=hw.trans (hK3.below hT0 (Nat.le_of_lt hTw))
  have hz3:wr.heap.size<w3.heap.size:=Nat.lt_of_lt_of_le hz2 hb3.size
  clear cC e0 e1 e2 hb3 HT2 hB2
  by_cases hE2:E2=0
  case neg=>
   have hE2'':(E2 != 0)=true:=by simp [hE2]
   have hR:Hid (R=(E2,Q1)):=hr3.out.trans (andT_ne hE2)
   go_wp2
   go_ret
   rw [hR.out]
   exact ⟨rfl,hK3,HT3.out,HO1.out⟩
  subst hE2
  have hr4:Hid (R=_):=hr3.out.trans andT_eq
  clear hr3
  have hct:=cF.out w3 Q1 hB3 HT3.out HO1.out (by omega) (by omega)
  obtain ⟨⟨E3,Q3⟩,eq0⟩:∃ z,GF Q1=z:=⟨_,rfl⟩
  rw [eq0] at hct
  have hs0:Hid (R=andT (E3,Q3) fun s1=>andT (GR s1) fun s1=>rruns dep s1 (xs.drop (i+1))):=by have h:=hr4.out;rw [eq0] at h;exact h
  have CT:Hid (Calls Tryz.prog 77 #[.pointer (some ⟨T,0,none⟩),.int .i64 (dep+1),.slice pt nt ct] w3 fun r w'=>r=.returned (.int .i64 E3)∧KeepT T w3 w'∧Tal T Q3 w'∧OkS Q3):=hct
  clear hct cF eq0 hr4
  go_wp2_with fail
  refine CT.out.mono ?_
  rintro r w4 ⟨rfl,hk4,ht4,ho4⟩
  have hK4:KeepT T w w4:=hK3.trans hk4
  have HT4:Hid (Tal T Q3 w4):=ht4
  have HO4:Hid (OkS Q3):=ho4
  have hB4:Below w0.heap.size w0 w4:=hw.trans (hK4.below hT0 (Nat.le_of_lt hTw))
  have hz4:wr.heap.size<w4.heap.size:=Nat.lt_of_lt_of_le hz3 hk4.size
  have ga2:=(hk4.cell (p:=⟨wr.heap.size,2,none⟩) hz3 hTne).trans g2
  clear CT hk4 ht4 ho4 g1 g2
  by_cases hE3:E3=0
  case neg=>
   have hE':(E3 != 0)=true:=by simp [hE3]
   have hR:Hid (R=(E3,Q3)):=hs0.out.trans (andT_ne hE3)
   go_wp2
   go_ret
   rw [hR.out]
   exact ⟨rfl,hK4,HT4.out,HO4.out⟩
  subst hE3
  have hr5:Hid (R=_):=hs0.out.trans andT_eq
  clear hs0
  have hct:=cR.out w4 Q3 hB4 HT4.out HO4.out (by omega) (by omega)
  obtain ⟨⟨E4,Q4⟩,eq1⟩:∃ z,GR Q3=z:=⟨_,rfl⟩
  rw [eq1] at hct
  have hs1:Hid (R=andT (E4,Q4) fun s1=>rruns dep s1 (xs.drop (i+1))):=by have h:=hr5.out;rw [eq1] at h;exact h
  have CT:Hid (Calls Tryz.prog 125 #[.pointer (some ⟨T,0,none⟩),.int .i64 (dep+1),.slice ps ns cs] w4 fun r w'=>r=.returned (.int .i64 E4)∧KeepT T w4 w'∧Tal T Q4 w'∧OkS Q4):=hct
  clear hct cR eq1 hr5
  go_wp2_with fail
  refine CT.out.mono ?_
  rintro r w5 ⟨rfl,hk5,ht5,ho5⟩
  have hK5:KeepT T w w5:=hK4.trans hk5
  have HT5:Hid (Tal T Q4 w5):=ht5
  have HO5:Hid (OkS Q4):=ho5
  have hB5:Below w0.heap.size w0 w5:=hw.trans (hK5.below hT0 (Nat.le_of_lt hTw))
  have hz5:wr.heap.size<w5.heap.size:=Nat.lt_of_lt_of_le hz4 hk5.size
  clear CT hk5 ht5 ho5 ga2
  by_cases hE4:E4=0
  case neg=>
   have hE':(E4 != 0)=true:=by simp [hE4]
   have hR:Hid (R=(E4,Q4)):=hs1.out.trans (andT_ne hE4)
   go_wp2
   go_ret
   rw [hR.out]
   exact ⟨rfl,hK5,HT5.out,HO5.out⟩
  subst hE4
  have hr6:Hid (R=_):=hs1.out.trans andT_eq
  clear hs1
  go_wp2
  exact ⟨⟨i+1,Q4,by omega,by go_num,hr6,hK5,HT5,HO5⟩,by simp [intOf];omega⟩
theorem both_runs (w0:World) (T:Nat) (hT0:w0.heap.size≤T):∀ m:Nat,(∀ (fs:List Fm) (V:Value) (dep:Int),SizeOf.sizeOf fs≤m→FmsAt w0 V fs→Runs w0 T 77 dep V (fun s=>fruns dep s fs))∧(∀ (rs:List Rx) (V:Value) (dep:Int),SizeOf.sizeOf rs≤m→RxsAt w0 V rs→Runs w0 T 125 dep V (fun s=>rruns dep s rs)):=by
 intro m
 induction m with
 | zero=>
  refine ⟨fun fs V dep h=> ?_,fun rs V dep h=> ?_⟩
  ·cases fs<;>simp at h
  ·cases rs<;>simp at h
 | succ m ih=>exact ⟨fun fs V dep h hV=>forms_step w0 T hT0 m ih.1 ih.2 fs V dep h hV,fun rs V dep h hV=>regs_step w0 T hT0 m ih.1 ih.2 rs V dep h hV⟩
theorem forms_runs (w0:World) (T:Nat) (hT0:w0.heap.size≤T) (dep:Int) (V:Value) (fs:List Fm) (h:FmsAt w0 V fs):Runs w0 T 77 dep V (fun s=>fruns dep s fs):=(both_runs w0 T hT0 _).1 fs V dep (Nat.le_refl _) h
section
mutual
def nodT:Tm→Nat
 | .mk _ _ _ s=>1+nodTs s
def nodTs:List Tm→Nat
 | []=>0
 | t::l=>nodT t+nodTs l
end
end
section
mutual
def nodF:Fm→Nat
 | .mk _ _ _ _ ts _ _ _ ss rs=>1+nodTs ts+nodRs rs+nodFs ss
def nodFs:List Fm→Nat
 | []=>0
 | f::l=>nodF f+nodFs l
def nodR:Rx→Nat
 | .mk _ t s=>1+nodFs t+nodRs s
def nodRs:List Rx→Nat
 | []=>0
 | r::l=>nodR r+nodRs l
end
end
theorem nodT_eq (t:Tm):nodT t=1+nodTs t.subs:=by cases t;rw [nodT];rfl
theorem nodTs_nil:nodTs []=0:=by rw [nodTs]
theorem nodTs_cons (t:Tm) (l:List Tm):nodTs (t::l)=nodT t+nodTs l:=by rw [nodTs]
theorem nodF_eq (f:Fm):nodF f=1+nodTs f.terms+nodRs f.rgx+nodFs f.subs:=by cases f;rw [nodF];rfl
theorem nodFs_nil:nodFs []=0:=by rw [nodFs]
theorem nodFs_cons (f:Fm) (l:List Fm):nodFs (f::l)=nodF f+nodFs l:=by rw [nodFs]
theorem nodR_eq (r:Rx):nodR r=1+nodFs r.test+nodRs r.subs:=by cases r;rw [nodR];rfl
theorem nodRs_nil:nodRs []=0:=by rw [nodRs]
theorem nodRs_cons (r:Rx) (l:List Rx):nodRs (r::l)=nodR r+nodRs l:=by rw [nodRs]
theorem nodFs_append (a b:List Fm):nodFs (a++b)=nodFs a+nodFs b:=by
 induction a with
 | nil=>rw [List.nil_append,nodFs_nil];omega
 | cons x l ih=>rw [List.cons_append,nodFs_cons,nodFs_cons,ih];omega
theorem nodFs_len (a:List Fm):a.length≤nodFs a:=by
 induction a with
 | nil=>simp
 | cons x l ih=>rw [nodFs_cons,nodF_eq,List.length_cons];omega
theorem nodFs_get (a:List Fm) (i:Nat) (h:i<a.length):nodF a[i]≤nodFs a:=by
 induction a generalizing i with
 | nil=>simp at h
 | cons x l ih=>
  rw [nodFs_cons]
  rcases i with _ | i
  ·simp
  ·have:=ih i (by simpa using h)
   rw [List.getElem_cons_succ]
   omega
section
mutual
def wfT:Tm→Prop
 | .mk k n v s=>tmE (.mk k n v s)=0∧wfTs s
def wfTs:List Tm→Prop
 | []=>True
 | t::l=>wfT t∧wfTs l
end
end
section
mutual
def wfF:Fm→Prop
 | .mk k nm op vars terms lo hi opn subs rgx=>fmE (.mk k nm op vars terms lo hi opn subs rgx)=0∧wfTs terms∧wfRs rgx∧wfFs subs
def wfFs:List Fm→Prop
 | []=>True
 | f::l=>wfF f∧wfFs l
def wfR:Rx→Prop
 | .mk k t s=>rxE (.mk k t s)=0∧wfFs t∧wfRs s
def wfRs:List Rx→Prop
 | []=>True
 | r::l=>wfR r∧wfRs l
end
end
theorem wfT_eq (t:Tm):wfT t=(tmE t=0∧wfTs t.subs):=by cases t;rw [wfT];rfl
theorem wfTs_nil:wfTs []=True:=by rw [wfTs]
theorem wfTs_cons (t:Tm) (l:List Tm):wfTs (t::l)=(wfT t∧wfTs l):=by rw [wfTs]
theorem wfF_eq (f:Fm):wfF f=(fmE f=0∧wfTs f.terms∧wfRs f.rgx∧wfFs f.subs):=by cases f;rw [wfF];rfl
theorem wfFs_nil:wfFs []=True:=by rw [wfFs]
theorem wfFs_cons (f:Fm) (l:List Fm):wfFs (f::l)=(wfF f∧wfFs l):=by rw [wfFs]
theorem wfR_eq (r:Rx):wfR r=(rxE r=0∧wfFs r.test∧wfRs r.subs):=by cases r;rw [wfR];rfl
theorem wfRs_nil:wfRs []=True:=by rw [wfRs]
theorem wfRs_cons (r:Rx) (l:List Rx):wfRs (r::l)=(wfR r∧wfRs l):=by rw [wfRs]
theorem wfFs_append (a b:List Fm):wfFs (a++b)=(wfFs a∧wfFs b):=by
 induction a with
 | nil=>rw [List.nil_append,wfFs_nil,true_and]
 | cons x l ih=>rw [List.cons_append,wfFs_cons,wfFs_cons,ih,and_assoc]
theorem wfFs_get (a:List Fm) (i:Nat) (h:i<a.length) (k:wfFs a):wfF a[i]:=by
 induction a generalizing i with
 | nil=>simp at h
 | cons x l ih=>
  rw [wfFs_cons] at k
  rcases i with _ | i
  ·exact k.1
  ·exact ih i (by simpa using h) k.2
theorem truns_good:∀ (m:Nat) (ts:List Tm) (dep:Int) (s q:Int×Int),SizeOf.sizeOf ts≤m→truns dep s ts=(0,q)→wfTs ts∧q.1=s.1+nodTs ts:=by
 intro m
 induction m with
 | zero=>intro ts dep s q hm;cases ts<;>simp at hm
 | succ m ih=>
  intro ts dep s q hm h
  cases ts with
  | nil=>rw [truns_nil] at h;injection h with _ h;subst h;rw [wfTs_nil,nodTs_nil];simp
  | cons t l=>
   rw [truns_cons] at h
   rw [wfTs_cons,nodTs_cons,wfT_eq,nodT_eq]
   have s1:SizeOf.sizeOf l≤m:=by simp at hm;omega
   have s2:SizeOf.sizeOf t.subs≤m:=by have:=Tm.subs_lt t;simp at hm;omega
   by_cases h1:(trun dep s t).1=0
   ·rw [if_pos h1] at h
    rw [trun_eq] at h h1
    by_cases h2:meetE dep s=0
    ·rw [if_pos h2] at h h1
     have e2:(meetS dep s).1=s.1+1:=by unfold meetS;rw [if_pos h2]
     by_cases h3:tmE t=0
     ·rw [if_pos h3] at h h1
      have a:=ih t.subs (dep+1) (meetS dep s) (truns (dep+1) (meetS dep s) t.subs).2 s2 (by rw [← h1])
      have b:=ih l dep _ q s1 h
      exact ⟨⟨⟨h3,a.1⟩,b.1⟩,by rw [b.2,a.2,e2];omega⟩
     ·rw [if_neg h3] at h1
      exact absurd h1 h3
    ·rw [if_neg h2] at h1
     exact absurd h1 h2
   ·rw [if_neg h1] at h
    rw [h] at h1
    exact absurd rfl h1
theorem andT_zero {x:Int×(Int×Int)} {K:Int×Int→Int×(Int×Int)} {q:Int×Int} (h:andT x K=(0,q)):x.1=0∧K x.2=(0,q):=by
 unfold andT at h
 by_cases h1:x.1=0
 ·rw [if_pos h1] at h;exact ⟨h1,h⟩
 ·rw [if_neg h1] at h;rw [h] at h1;exact absurd rfl h1
theorem pair0 {x:Int×(Int×Int)} (h:x.1=0):x=(0,x.2):=by rw [← h]
theorem both_good:∀ m:Nat,(∀ (fs:List Fm) (dep:Int) (s q:Int×Int),SizeOf.sizeOf fs≤m→fruns dep s fs=(0,q)→wfFs fs∧q.1=s.1+nodFs fs)∧(∀ (rs:List Rx) (dep:Int) (s q:Int×Int),SizeOf.sizeOf rs≤m→rruns dep s rs=(0,q)→wfRs rs∧q.1=s.1+nodRs rs):=by
 intro m
 induction m with
 | zero=>exact ⟨fun fs dep s q hm=>by cases fs<;>simp at hm,fun rs dep s q hm=>by cases rs<;>simp at hm⟩
 | succ m ih=>
  constructor
  ·intro fs dep s q hm h
   cases fs with
   | nil=>rw [fruns_nil] at h;injection h with _ h;subst h;rw [wfFs_nil,nodFs_nil];simp
   | cons f l=>
    rw [fruns_cons] at h
    rw [wfFs_cons,nodFs_cons,wfF_eq,nodF_eq]
    obtain ⟨h1,h2⟩:=andT_zero h
    have s1:SizeOf.sizeOf l≤m:=by simp at hm;omega
    have s2:SizeOf.sizeOf f.subs≤m:=by have:=Fm.subs_lt f;simp at hm;omega
    have s3:SizeOf.sizeOf f.rgx≤m:=by have:=Fm.rgx_lt f;simp at hm;omega
    have b:=ih.1 l dep _ q s1 h2
    have h3:=pair0 h1
    generalize (frun dep s f).2=q2 at*
    rw [frun_eq] at h3
    obtain ⟨c1,h3⟩:=andT_zero h3
    obtain ⟨c2,h3⟩:=andT_zero h3
    obtain ⟨c3,h3⟩:=andT_zero h3
    obtain ⟨c4,h3⟩:=andT_zero h3
    have d1:=truns_good _ f.terms _ _ _ (Nat.le_refl _) (pair0 c3)
    have d2:=ih.2 f.rgx _ _ _ s3 (pair0 c4)
    have d3:=ih.1 f.subs _ _ _ s2 h3
    have e2:(meetS dep s).1=s.1+1:=by unfold meetS;rw [if_pos c1]
    refine ⟨⟨⟨c2,d1.1,d2.1,d3.1⟩,b.1⟩, ?_⟩
    rw [b.2,d3.2,d2.2,d1.2]
    show (meetS dep s).1+_+_+_+_=_
    rw [e2]
    omega
  ·intro rs dep s q hm h
   cases rs with
   | nil=>rw [rruns_nil] at h;injection h with _ h;subst h;rw [wfRs_nil,nodRs_nil];simp
   | cons r l=>
    rw [rruns_cons] at h
    rw [wfRs_cons,nodRs_cons,wfR_eq,nodR_eq]
    obtain ⟨h1,h2⟩:=andT_zero h
    have s1:SizeOf.sizeOf l≤m:=by simp at hm;omega
    have s2:SizeOf.sizeOf r.subs≤m:=by have:=Rx.subs_lt r;simp at hm;omega
    have s3:SizeOf.sizeOf r.test≤m:=by have:=Rx.test_lt r;simp at hm;omega
    have b:=ih.2 l dep _ q s1 h2
    have h3:=pair0 h1
    generalize (rrun dep s r).2=q2 at*
    rw [rrun_eq] at h3
    obtain ⟨c1,h3⟩:=andT_zero h3
    obtain ⟨c2,h3⟩:=andT_zero h3
    obtain ⟨c4,h3⟩:=andT_zero h3
    have d2:=ih.1 r.test _ _ _ s3 (pair0 c4)
    have d3:=ih.2 r.subs _ _ _ s2 h3
    have e2:(meetS dep s).1=s.1+1:=by unfold meetS;rw [if_pos c1]
    refine ⟨⟨⟨c2,d2.1,d3.1⟩,b.1⟩, ?_⟩
    rw [b.2,d3.2,d2.2]
    show (meetS dep s).1+_+_+_=_
    rw [e2]
    omega
theorem fruns_good {fs:List Fm} {dep:Int} {s q:Int×Int} (h:fruns dep s fs=(0,q)):wfFs fs∧q.1=s.1+nodFs fs:=(both_good _).1 fs dep s q (Nat.le_refl _) h
theorem getD_lt {α:Type} (l:List α) (i:Nat) (d:α) (h:i<l.length):l.getD i d=l[i]:=by rw [List.getD_eq_getElem?_getD,List.getElem?_eq_getElem h];rfl
def mx (l:List Nat):Nat:=l.foldl max 0
theorem mx_snoc (l:List Nat) (x:Nat):mx (l++[x])=max (mx l) x:=by unfold mx;rw [List.foldl_append];rfl
theorem mx_le {l:List Nat} {n:Nat} (h:∀ x∈l,x≤n):mx l≤n:=by
 unfold mx
 suffices H:∀ (l:List Nat) (a:Nat),a≤n→(∀ x∈l,x≤n)→l.foldl max a≤n from H l 0 (Nat.zero_le _) h
 intro l
 induction l with
 | nil=>intro a ha _;exact ha
 | cons x l ih=>intro a ha h;exact ih (max a x) (Nat.max_le.2 ⟨ha,h x (by simp)⟩) (fun y hy=>h y (by simp [hy]))
def freO (f:Fm) (ws:List (List ByteArray)):List ByteArray:=if f.k=10 then (ws.headD []).filter (fun s=> !Lib.containsS f.vars s) else if f.k=19 then uniN [[f.nm],f.vars.drop 1] else if f.k=20∨f.k=21 then ws.getD 1 [] else uniN [tvss f.terms,uniN ws]
section
mutual
def fre:Fm→List ByteArray×Nat
 | .mk k nm op vars terms lo hi opn subs rgx=>
  let ps:=if rgx.isEmpty then fres subs else frers rgx
  let x:=freO (.mk k nm op vars terms lo hi opn subs rgx) (ps.map Prod.fst)
  (x,max (mx (ps.map Prod.snd)) x.length)
def fres:List Fm→List (List ByteArray×Nat)
 | []=>[]
 | f::l=>fre f::fres l
def frer:Rx→List (List ByteArray×Nat)
 | .mk _ t s=>fres t++frers s
def frers:List Rx→List (List ByteArray×Nat)
 | []=>[]
 | r::l=>frer r++frers l
end
end
theorem fres_map (l:List Fm):fres l=l.map fre:=by
 induction l with
 | nil=>rw [fres];rfl
 | cons f l ih=>rw [fres,ih];rfl
theorem frers_map:∀ (m:Nat) (rs:List Rx),SizeOf.sizeOf rs≤m→frers rs=(rtss rs).map fre:=by
 intro m
 induction m with
 | zero=>intro rs hm;cases rs<;>simp at hm
 | succ m ih=>
  intro rs hm
  cases rs with
  | nil=>rw [frers,rtss_nil];rfl
  | cons r l=>
   have s1:SizeOf.sizeOf l≤m:=by simp at hm;omega
   have s2:SizeOf.sizeOf r.subs≤m:=by have:=Rx.subs_lt r;simp at hm;omega
   rw [frers,rtss_cons,rts_eq,List.map_append,List.map_append,ih l s1,← ih r.subs s2]
   cases r
   rw [frer,fres_map]
   rfl
theorem fre_eq (f:Fm):fre f=(freO f ((ptsF f).map fun g=>(fre g).1),max (mx ((ptsF f).map fun g=>(fre g).2)) (freO f ((ptsF f).map fun g=>(fre g).1)).length):=by
 have e:(if f.rgx.isEmpty then fres f.subs else frers f.rgx)=(ptsF f).map fre:=by
  unfold ptsF
  by_cases h:f.rgx=[]
  ·rw [if_pos h,if_pos (by rw [h];rfl),fres_map]
  ·rw [if_neg h,if_neg (by intro h2;exact h (List.isEmpty_iff.1 h2)),frers_map _ _ (Nat.le_refl _)]
 have e2:fre f=(freO f ((if f.rgx.isEmpty then fres f.subs else frers f.rgx).map Prod.fst),max (mx ((if f.rgx.isEmpty then fres f.subs else frers f.rgx).map Prod.snd)) (freO f ((if f.rgx.isEmpty then fres f.subs else frers f.rgx).map Prod.fst)).length):=by
  cases f
  rw [fre]
  rfl
 rw [e2,e,List.map_map,List.map_map]
 rfl
theorem rtss_nod:∀ (m:Nat) (rs:List Rx),SizeOf.sizeOf rs≤m→nodFs (rtss rs)≤nodRs rs∧(wfRs rs→wfFs (rtss rs)):=by
 intro m
 induction m with
 | zero=>intro rs hm;cases rs<;>simp at hm
 | succ m ih=>
  intro rs hm
  cases rs with
  | nil=>rw [rtss_nil,nodFs_nil,wfFs_nil];simp
  | cons r l=>
   have s1:SizeOf.sizeOf l≤m:=by simp at hm;omega
   have s2:SizeOf.sizeOf r.subs≤m:=by have:=Rx.subs_lt r;simp at hm;omega
   have a:=ih l s1
   have b:=ih r.subs s2
   rw [rtss_cons,rts_eq,nodFs_append,nodFs_append,wfFs_append,wfFs_append,nodRs_cons,nodR_eq,wfRs_cons,wfR_eq]
   exact ⟨by omega,fun h=>⟨⟨h.1.2.1,b.2 h.1.2.2⟩,a.2 h.2⟩⟩
theorem pts_nod (f:Fm):nodFs (ptsF f)<nodF f:=by
 rw [nodF_eq]
 unfold ptsF
 by_cases h:f.rgx=[]
 ·rw [if_pos h];omega
 ·rw [if_neg h];have:=(rtss_nod _ f.rgx (Nat.le_refl _)).1;omega
theorem pts_ok {f:Fm} (h:wfF f):wfFs (ptsF f):=by
 rw [wfF_eq] at h
 unfold ptsF
 by_cases h1:f.rgx=[]
 ·rw [if_pos h1];exact h.2.2.2
 ·rw [if_neg h1];exact (rtss_nod _ f.rgx (Nat.le_refl _)).2 h.2.2.1
theorem tvss_nod:∀ (m:Nat) (ts:List Tm),SizeOf.sizeOf ts≤m→(tvss ts).length≤nodTs ts:=by
 intro m
 induction m with
 | zero=>intro ts hm;cases ts<;>simp at hm
 | succ m ih=>
  intro ts hm
  cases ts with
  | nil=>rw [tvss_nil];simp
  | cons t l=>
   have s1:SizeOf.sizeOf l≤m:=by simp at hm;omega
   have s2:SizeOf.sizeOf t.subs≤m:=by have:=Tm.subs_lt t;simp at hm;omega
   have a:=ih l s1
   have b:=ih t.subs s2
   rw [tvss_cons,tvs_eq,nodTs_cons,nodT_eq,List.length_append,List.length_append]
   have c:(if t.k=1 then [t.nm] else ([]:List ByteArray)).length≤1:=by split<;>simp
   omega
theorem fm_forms {f:Fm} (h:fmE f=0):(1≤f.k∧f.k≤22)∧((frm f.k).vl≤(f.vars.length:Int)∧(f.vars.length:Int)≤(frm f.k).vm)∧((frm f.k).tl≤(f.terms.length:Int)∧(f.terms.length:Int)≤(frm f.k).tm)∧((frm f.k).sl≤(f.subs.length:Int)∧(f.subs.length:Int)≤(frm f.k).sm)∧((frm f.k).rl≤(f.rgx.length:Int)∧(f.rgx.length:Int)≤(frm f.k).rm):=by
 unfold fmE at h
 by_cases h1:f.k<1∨22<f.k
 ·rw [if_pos h1] at h;simp at h
 rw [if_neg h1] at h
 by_cases h2:manyB f.k f.vars.length f.terms.length=true
 ·rw [if_pos h2] at h;simp at h
 rw [if_neg h2] at h
 by_cases h3:formedM (frm f.k) f.op f.lo f.hi f.nm f.opn f.vars f.terms.length f.subs.length f.rgx.length=false
 ·rw [if_pos h3] at h;simp at h
 have h4:formedM (frm f.k) f.op f.lo f.hi f.nm f.opn f.vars f.terms.length f.subs.length f.rgx.length=true:=by
  cases h5:formedM (frm f.k) f.op f.lo f.hi f.nm f.opn f.vars f.terms.length f.subs.length f.rgx.length with
  | false=>exact absurd h5 h3
  | true=>rfl
 unfold formedM at h4
 simp only [Bool.and_eq_true,decide_eq_true_eq] at h4
 exact ⟨by omega,h4.1,h4.2.1,h4.2.2.1,h4.2.2.2.1⟩
theorem fm_vars {f:Fm} (h:fmE f=0):f.vars.length≤8:=by
 obtain ⟨hk,hv, -⟩:=fm_forms h
 have H:(frm f.k).vm≤8:=by
  obtain ⟨h1,h2⟩:=hk
  generalize f.k=k at*
  have:k=1∨k=2∨k=3∨k=4∨k=5∨k=6∨k=7∨k=8∨k=9∨k=10∨k=11∨k=12∨k=13∨k=14∨k=15∨k=16∨k=17∨k=18∨k=19∨k=20∨k=21∨k=22:=by omega
  rcases this with h | h | h | h | h | h | h | h | h | h | h | h | h | h | h | h | h | h | h | h | h | h<;>subst h<;>decide
 omega
theorem fm_10 {f:Fm} (h:fmE f=0) (hk:f.k=10):0<(ptsF f).length:=by
 obtain ⟨-, -, -,hs,hr⟩:=fm_forms h
 rw [hk] at hs hr
 have e1:(frm 10).sl=1:=by decide
 have e2:(frm 10).rm=0:=by decide
 have:f.rgx=[]:=List.length_eq_zero_iff.1 (by omega)
 unfold ptsF
 rw [if_pos this]
 omega
theorem fm_19 {f:Fm} (h:fmE f=0) (hk:f.k=19):1≤f.vars.length:=by
 obtain ⟨-,hv, -⟩:=fm_forms h
 rw [hk] at hv
 have e1:(frm 19).vl=1:=by decide
 omega
theorem fm_20 {f:Fm} (h:fmE f=0) (hk:f.k=20∨f.k=21):1<(ptsF f).length:=by
 obtain ⟨-, -, -,hs,hr⟩:=fm_forms h
 have e1:(frm f.k).sl=2:=by rcases hk with hk | hk<;>rw [hk]<;>decide
 have e2:(frm f.k).rm=0:=by rcases hk with hk | hk<;>rw [hk]<;>decide
 have:f.rgx=[]:=List.length_eq_zero_iff.1 (by omega)
 unfold ptsF
 rw [if_pos this]
 omega
theorem sum_len {l:List Fm} {g:Fm→List ByteArray} (h:∀ f∈l,(g f).length≤9*nodF f):((l.map g).flatten).length≤9*nodFs l:=by
 induction l with
 | nil=>simp
 | cons f l ih=>
  rw [List.map_cons,List.flatten_cons,List.length_append,nodFs_cons]
  have:=ih (fun x hx=>h x (by simp [hx]))
  have:=h f (by simp)
  omega
theorem fre_len:∀ (m:Nat) (f:Fm),nodF f≤m→wfF f→(fre f).1.length≤9*nodF f:=by
 intro m
 induction m with
 | zero=>intro f hm;rw [nodF_eq] at hm;omega
 | succ m ih=>
  intro f hm hok
  have hp:=pts_nod f
  have hpo:=pts_ok hok
  have hE:fmE f=0:=by rw [wfF_eq] at hok;exact hok.1
  have hv:=fm_vars hE
  have IH:∀ g∈ptsF f,(fre g).1.length≤9*nodF g:=by
   intro g hg
   obtain ⟨i,hi,rfl⟩:=List.getElem_of_mem hg
   have:=nodFs_get (ptsF f) i hi
   exact ih _ (by omega) (wfFs_get _ i hi hpo)
  have hs:=sum_len IH
  have ht:=tvss_nod _ f.terms (Nat.le_refl _)
  have hn:1+nodTs f.terms+nodFs (ptsF f)≤nodF f:=by
   rw [nodF_eq]
   unfold ptsF
   by_cases h:f.rgx=[]
   ·rw [if_pos h];omega
   ·rw [if_neg h];have:=(rtss_nod _ f.rgx (Nat.le_refl _)).1;omega
  rw [fre_eq]
  show (freO f ((ptsF f).map fun g=>(fre g).1)).length≤_
  unfold freO
  by_cases h10:f.k=10
  ·rw [if_pos h10]
   have h0:=fm_10 hE h10
   refine Nat.le_trans (List.length_filter_le _ _) ?_
   cases hP:ptsF f with
   | nil=>simp
   | cons g l=>
    rw [hP,nodFs_cons] at hp
    have:=IH g (by rw [hP];simp)
    show (fre g).1.length≤_
    omega
  rw [if_neg h10]
  by_cases h19:f.k=19
  ·rw [if_pos h19]
   have h:=uniN_len [[f.nm],f.vars.drop 1]
   rw [List.flatten_cons,List.flatten_cons,List.flatten_nil,List.append_nil,List.length_append,List.length_drop,List.length_singleton] at h
   omega
  rw [if_neg h19]
  by_cases h20:f.k=20∨f.k=21
  ·rw [if_pos h20]
   have h0:=fm_20 hE h20
   rw [getD_lt _ _ _ (by rw [List.length_map];exact h0),List.getElem_map]
   have:=IH _ (List.getElem_mem h0)
   have:=nodFs_get (ptsF f) 1 h0
   omega
  rw [if_neg h20]
  have h1:=uniN_len [tvss f.terms,uniN ((ptsF f).map fun g=>(fre g).1)]
  have h2:=uniN_len ((ptsF f).map fun g=>(fre g).1)
  rw [List.flatten_cons,List.flatten_cons,List.flatten_nil,List.append_nil,List.length_append] at h1
  omega
theorem fre_most:∀ (m:Nat) (f:Fm),nodF f≤m→wfF f→(fre f).2≤9*nodF f:=by
 intro m
 induction m with
 | zero=>intro f hm;rw [nodF_eq] at hm;omega
 | succ m ih=>
  intro f hm hok
  have hp:=pts_nod f
  have hpo:=pts_ok hok
  have h1:=fre_len _ f (Nat.le_refl _) hok
  rw [fre_eq] at h1 ⊢
  refine Nat.max_le.2 ⟨mx_le fun x hx=> ?_,h1⟩
  obtain ⟨g,hg,rfl⟩:=List.mem_map.1 hx
  obtain ⟨i,hi,rfl⟩:=List.getElem_of_mem hg
  have h2:=nodFs_get (ptsF f) i hi
  have h3:=ih _ (by omega) (wfFs_get _ i hi hpo)
  omega
theorem freM_le {l:List Fm} {n:Nat} (h:wfFs l) (hn:nodFs l≤n):mx (l.map fun g=>(fre g).2)≤9*n:=mx_le fun x hx=>by
 obtain ⟨g,hg,rfl⟩:=List.mem_map.1 hx
 obtain ⟨i,hi,rfl⟩:=List.getElem_of_mem hg
 have h2:=nodFs_get l i hi
 have h3:=fre_most _ _ (Nat.le_refl _) (wfFs_get _ i hi h)
 omega
theorem flat_get (rs:List (List ByteArray)) (i:Nat) (h:i<rs.length):rs[i].length≤rs.flatten.length:=by
 induction rs generalizing i with
 | nil=>simp at h
 | cons x l ih=>
  rw [List.flatten_cons,List.length_append]
  rcases i with _ | i
  ·simp
  ·have:=ih i (by simpa using h)
   rw [List.getElem_cons_succ]
   omega
theorem freeof_any (w0:World) (f:Fm) (q:FQ) (hq:QAt w0 (f,q)) (A:Value) (us:List Value) (rs:List (List ByteArray)) (w:World) (hw:Below w0.heap.size w0 w) (hA:LstsAt w A us rs) (hE:fmE f=0) (hp:rs.length=(ptsF f).length) (l1:(tvss f.terms).length≤100000000) (l2:rs.flatten.length≤100000000) (l3:us.length≤1000000000) (B:Nat) (hBw:B≤w.heap.size) (hO:∀ i (hi:i<us.length) (hy:i<rs.length),OwnN B us[i] rs[i] w):
  Calls Tryz.prog 127 #[.agg #[.int .i64 f.k,.string f.nm,.int .i64 f.op,q.v,q.t,.int .i64 f.lo,.int .i64 f.hi,.bool f.opn,q.s,q.r],A] w fun e w'=>∃ v,e=.returned v∧OwnN B v (freO f rs) w'∧Below w.heap.size w w':=by
 have hl:=hA.1
 unfold freO
 by_cases h10:f.k=10
 ·have h0:=fm_10 hE h10
  have hy:0<rs.length:=by omega
  rw [if_pos h10]
  have h:=freeEx_any f q w (hq.1.below hw) A us rs hA h10 (by omega) hy l3 (by have:=flat_get rs 0 hy;omega)
  rw [show rs.headD []=rs[0] by cases rs with | nil=>simp at hy | cons x l=>rfl]
  exact h.mono fun e w' ⟨v,h1,h2,h3⟩=>⟨v,h1,own_monoB h2 hBw,h3⟩
 rw [if_neg h10]
 by_cases h19:f.k=19
 ·have h0:=fm_19 hE h19
  have h1:=fm_vars hE
  rw [if_pos h19]
  exact (freeAgg_any f q w (hq.1.below hw) A h19 h0 (by omega)).mono fun e w' ⟨v,h1,h2,h3⟩=>⟨v,h1,own_monoB h2 hBw,h3⟩
 rw [if_neg h19]
 by_cases h20:f.k=20∨f.k=21
 ·have h0:=fm_20 hE h20
  have hy:1<rs.length:=by omega
  rw [if_pos h20]
  have h:=freeLet_any f q A us rs w hA h20 (by omega) hy l3 B (hO 1 (by omega) hy)
  rw [getD_lt _ _ _ hy]
  exact h
 rw [if_neg h20]
 exact (freeOther_any w0 f q hq A us rs w hw hA h10 h19 (fun h=>h20 (Or.inl h)) (fun h=>h20 (Or.inr h)) l1 l2 l3).mono fun e w' ⟨v,h1,h2,h3⟩=>⟨v,h1,own_monoB h2 hBw,h3⟩
theorem inLs:(Tryz.prog.info? 22).map (fun i=>(i.zero,i.size,i.bytes))=some (some (.slice none 0 0),1,24):=by kernel_rfl
theorem own_keepP {w w':World} {B e size n:Nat} {v:Value} {xs:List Value} (h:w.ownsRow B e size v n xs) (hk:∀ q,v.ownBlock=some q→q<w.heap.size→w'.heap[q]? =w.heap[q]?):w'.ownsRow B e size v n xs:=by
 obtain ⟨hL,⟨e,hn0⟩ | ⟨g,cap,cur,rfl,hg1,hg2,hg3,hg4,hg5,hg6⟩⟩:=h
 ·exact ⟨hL,.inl ⟨e,hn0⟩⟩
 ·exact ⟨hL,.inr ⟨g,cap,cur,rfl,hg1,(hk g rfl (Array.getElem?_eq_some_iff.1 hg2).1).trans hg2,hg3,hg4,hg5,hg6⟩⟩
theorem set_block {w:World} {n o q:Nat} {u:Value} (h:q≠n):(w.setCell ⟨n,o,none⟩ u).heap[q]? =w.heap[q]?:=Below.heap_setCell _ _ _ _ h
theorem own_lt {w:World} {B e size n q:Nat} {v:Value} {xs:List Value} (h:w.ownsRow B e size v n xs) (hq:v.ownBlock=some q):q<w.heap.size:=(World.ownsRow.lt h q hq).2
def OwnL (B:Nat) (v:Value) (us:List Value) (w:World):Prop:=w.ownsRow B 22 1 v us.length us
theorem OwnL.bel {B:Nat} {v:Value} {L:List Value} {w w':World} (h:OwnL B v L w) (hb:Below w.heap.size w w'):OwnL B v L w':=own_belA h hb
theorem OwnL.nil (B:Nat) (w:World):OwnL B (.slice none 0 0) [] w:=⟨rfl,.inl ⟨rfl,rfl⟩⟩
theorem OwnL.lsts {B:Nat} {v:Value} {us:List Value} {w:World} {rs:List (List ByteArray)} (h:OwnL B v us w) (hl:us.length=rs.length) (hn:∀ k (hk:k<us.length) (ky:k<rs.length),NmsAt w us[k] rs[k]):LstsAt w v us rs:=by
 have h':w.ownsRow B 22 1 v us.length us:=h
 obtain ⟨hL,⟨e,hn0⟩ | ⟨g,cap,cur,rfl,hg1,hg2,hg3,hg4,hg5,hg6⟩⟩:=h
 ·exact ⟨hl,none,0,by rw [e,hn0],fun k hk=>by omega,hn⟩
 ·refine ⟨hl,_,_,rfl,fun k hk=>⟨g,0,rfl,(Array.getElem?_eq_some_iff.1 hg2).1, ?_⟩,hn⟩
  rw [Nat.zero_add,h'.cellAt _ (by omega)]
  simp [hk]
def OwnLN (B:Nat) (v:Value) (us:List Value) (rs:List (List ByteArray)) (w:World):Prop:=OwnL B v us w∧us.length=rs.length∧(∀ r∈rs,r.length≤9223372036854775807)∧∀ i (hi:i<us.length) (hy:i<rs.length),OwnN B us[i] rs[i] w
theorem OwnLN.lsts {B:Nat} {v:Value} {us:List Value} {w:World} {rs:List (List ByteArray)} (h:OwnLN B v us rs w):LstsAt w v us rs:=h.1.lsts h.2.1 (fun k hk ky=>(h.2.2.2 k hk ky).nms (h.2.2.1 _ (List.getElem_mem ky)))
theorem own_apart {w:World} {B B' e e' size size' n n':Nat} {v v':Value} {xs xs':List Value} (h:w.ownsRow B e size v n xs) (h':w.ownsRow B' e' size' v' n' xs') (he:e≠e') (q:Nat) (hq:v.ownBlock=some q):v'.ownBlock≠some q:=by
 intro hq'
 obtain ⟨-,⟨rfl, -⟩ | ⟨g,cap,cur,rfl, -,hg, -⟩⟩:=h
 ·simp [Value.ownBlock] at hq
 obtain ⟨-,⟨rfl, -⟩ | ⟨g',cap',cur',rfl, -,hg', -⟩⟩:=h'
 ·simp [Value.ownBlock] at hq'
 simp only [Value.ownBlock,Option.some.injEq] at hq hq'
 subst hq hq'
 rw [hg] at hg'
 injection hg' with hg'
 injection hg' with _ h2
 exact he h2
def EachOut (w:World) (fs:List Fm) (r:Ending) (w':World):Prop:=Below w.heap.size w w'∧∃ v us,r=.returned (.tuple #[v,.int .i64 ((mx (fs.map fun f=>(fre f).2):Nat):Int)])∧OwnLN w.heap.size v us (fs.map fun f=>(fre f).1) w'
theorem feach_any:∀ (m:Nat) (fs:List Fm) (V:Value) (w:World),nodFs fs<m→nodFs fs≤256→wfFs fs→FmsAt w V fs→Calls Tryz.prog 78 #[V] w (EachOut w fs):=by
 obtain ⟨i0,hi,hz0,hz1,hz2⟩:=info_parts inLs
 intro m
 induction m with
 | zero=>intro fs V w hm;omega
 | succ m ih=>
  intro fs V w hm h256 hok hV
  obtain ⟨p,c,rfl,hl,hc,HX0⟩:=hV.form
  have HX:Hid (∀ i (hi:i<fs.length),∃ b off uv ut us ur,p=some ⟨b,off,none⟩∧b<w.heap.size∧FmC w b (off+i*10) fs[i] uv ut us ur∧NmsAt w uv fs[i].vars∧TmsAt w ut fs[i].terms∧FmsAt w us fs[i].subs∧RxsAt w ur fs[i].rgx):=HX0
  have IH:Hid (∀ (fs:List Fm) (V:Value) (w:World),nodFs fs<m→nodFs fs≤256→wfFs fs→FmsAt w V fs→Calls Tryz.prog 78 #[V] w (EachOut w fs)):=ih
  have HM:Hid (nodFs fs<m+1):=hm
  have H256:Hid (nodFs fs≤256):=h256
  have HOK:Hid (wfFs fs):=hok
  have hln:fs.length≤256:=Nat.le_trans (nodFs_len fs) h256
  obtain ⟨EO,eEO⟩:∃ EO,Hid (EachOut w fs=EO):=⟨_,rfl⟩
  rw [eEO.out]
  clear hV HX0 ih hm h256 hok
  obtain ⟨n,en⟩:∃ n:Nat,Hid (fs.length=n):=⟨_,rfl⟩
  rw [en.out] at hl hc hln ⊢
  go_enter Tryz.func78,Tryz.ntmps78
  go_wp2
  go_loopw [2,3,11] (fun v2 v3 v wr=>∃ (k:Nat) (M:Nat) (L:List Value),k≤n∧v=.int .i64 k∧v3=.int .i64 (M:Int)∧M≤3000∧Hid (M=mx ((fs.take k).map fun f=>(fre f).2))∧L.length=k∧Below w.heap.size w wr∧Hid (OwnL w.heap.size v2 L wr)∧Hid (∀ i (hi:i<L.length) (ky:i<fs.length),OwnN w.heap.size L[i] (fre fs[i]).1 wr)) (fun _ _ v _=>n - (intOf v).toNat)
  case atStart=>exact ⟨0,0,[],Nat.zero_le _,rfl,rfl,by omega,(show _=_ by simp [mx]),rfl,Below.refl _ _,OwnL.nil _ _,fun i hi=>by simp at hi⟩
  case round=>
   obtain ⟨k,M,L,hk,rfl,rfl,hM3,hMx,hLk,hB,hO,hN⟩:=hrel
   have hsz:=hB.size
   have HK:Hid (∀ q,u2.ownBlock=some q→w.heap.size≤q∧q<wr.heap.size):=fun q hq=>World.ownsRow.lt hO.out q hq
   by_cases hlt:k<n
   case neg=>
    have c2:¬ (k:Int)<n:=by omega
    have hL:OwnLN w.heap.size u2 L (fs.map fun f=>(fre f).1) wr:=⟨hO.out,by rw [List.length_map,en.out];omega,fun r hr=>by
     obtain ⟨g,hg,rfl⟩:=List.mem_map.1 hr
     obtain ⟨i,hi,rfl⟩:=List.getElem_of_mem hg
     have h1:=fre_len _ fs[i] (Nat.le_refl _) (wfFs_get _ i hi HOK.out)
     have h2:=nodFs_get fs i hi
     have h3:=H256.out
     omega,fun i hi ky=>by rw [List.getElem_map];exact hN.out i hi (by simpa using ky)⟩
    have hM2:Hid (M=mx (fs.map fun f=>(fre f).2)):=by
     have h:=hMx.out
     rw [List.take_of_length_le (by have:=en.out;omega)] at h
     exact h
    have HL:Hid (OwnLN w.heap.size u2 L (fs.map fun f=>(fre f).1) wr):=hL
    have HEO:Hid (∀ r,r=.returned (.tuple #[u2,.int .i64 (M:Int)])→EO r wr):=fun r hr=>by
     rw [← eEO.out]
     exact ⟨hB,u2,L,by rw [hr,hM2.out],HL.out⟩
    clear hL
    go_wp2
    exact HEO.out _ rfl
   have hlt':(k:Int)<n:=by omega
   have kx:k<fs.length:=by have:=en.out;omega
   obtain ⟨b,off,uv,ut,us0,ur,rfl,hb,FC,FV,FT,FS,FR⟩:=HX.out k kx
   obtain ⟨a0,a1,a2,a3,a4,a5,a6,a7,a8,a9⟩:=FC.below hB hb
   have hbr:b<wr.heap.size:=Nat.lt_of_lt_of_le hb hsz
   have hq:Hid (QAt w (fs[k],⟨uv,ut,us0,ur⟩)):=⟨FV,FT,FS,FR⟩
   have hokk:wfF fs[k]:=wfFs_get fs k kx HOK.out
   have hnk:nodF fs[k]≤nodFs fs:=nodFs_get fs k kx
   have hpk:=pts_nod fs[k]
   have hpo:=pts_ok hokk
   have hfe:Hid (fre fs[k]=(freO fs[k] ((ptsF fs[k]).map fun g=>(fre g).1),max (mx ((ptsF fs[k]).map fun g=>(fre g).2)) (freO fs[k] ((ptsF fs[k]).map fun g=>(fre g).1)).length)):=fre_eq fs[k]
   have hM4:Hid (mx ((fs.take (k+1)).map fun f=>(fre f).2)=max M (fre fs[k]).2):=by
    have h:=hMx.out
    unfold Hid
    rw [List.take_succ_eq_append_getElem kx,List.map_append,List.map_cons,List.map_nil,mx_snoc,← h]
   have hE:fmE fs[k]=0:=by rw [wfF_eq] at hokk;exact hokk.1
   have ht0:=tvss_nod _ fs[k].terms (Nat.le_refl _)
   have hn9:=nodF_eq fs[k]
   have hr9:=(rtss_nod _ fs[k].rgx (Nat.le_refl _)).1
   have hr8:=nodFs_len (rtss fs[k].rgx)
   have h256:=H256.out
   have hmm:=HM.out
   have hsum:((ptsF fs[k]).map fun g=>(fre g).1).flatten.length≤9*nodFs (ptsF fs[k]):=sum_len (fun g hg=>by
    obtain ⟨i,hi,rfl⟩:=List.getElem_of_mem hg
    exact fre_len _ _ (Nat.le_refl _) (wfFs_get _ i hi hpo))
   have hfl:=fre_len _ fs[k] (Nat.le_refl _) hokk
   have hplen:=nodFs_len (ptsF fs[k])
   have cP:Hid (∀ W:World,Below w.heap.size w W→Calls Tryz.prog 126 #[.agg #[.int .i64 fs[k].k,.string fs[k].nm,.int .i64 fs[k].op,uv,ut,.int .i64 fs[k].lo,.int .i64 fs[k].hi,.bool fs[k].opn,us0,ur]] W fun e w'=>∃ v,e=.returned v∧FmsAt w' v (ptsF fs[k])∧Below W.heap.size W w'):=fun W hW=>parts_any w fs[k] ⟨uv,ut,us0,ur⟩ hq.out W hW (by omega)
   have cE:Hid (∀ (W:World) (V:Value),FmsAt W V (ptsF fs[k])→Calls Tryz.prog 78 #[V] W fun r w'=>Below W.heap.size W w'∧∃ v us,r=.returned (.tuple #[v,.int .i64 ((mx ((ptsF fs[k]).map fun g=>(fre g).2):Nat):Int)])∧OwnLN W.heap.size v us ((ptsF fs[k]).map fun g=>(fre g).1) w'):=fun W V h=>IH.out _ V W (by omega) (by omega) hpo h
   have cO:Hid (∀ (W:World) (A:Value) (us:List Value),Below w.heap.size w W→OwnLN w.heap.size A us ((ptsF fs[k]).map fun g=>(fre g).1) W→Calls Tryz.prog 127 #[.agg #[.int .i64 fs[k].k,.string fs[k].nm,.int .i64 fs[k].op,uv,ut,.int .i64 fs[k].lo,.int .i64 fs[k].hi,.bool fs[k].opn,us0,ur],A] W fun e w'=>∃ v,e=.returned v∧OwnN w.heap.size v (fre fs[k]).1 w'∧Below W.heap.size W w'):=fun W A us hW hA=>by
    rw [hfe.out]
    exact freeof_any w fs[k] ⟨uv,ut,us0,ur⟩ hq.out A us _ W hW hA.lsts hE (by rw [List.length_map]) (by omega) (by omega) (by rw [hA.2.1,List.length_map];omega) w.heap.size hW.size hA.2.2.2
   have hM5:Hid ((fre fs[k]).2=max (mx ((ptsF fs[k]).map fun g=>(fre g).2)) (fre fs[k]).1.length):=by unfold Hid;rw [hfe.out]
   have hfl2:(fre fs[k]).1.length≤2400:=by omega
   have hmx:mx ((ptsF fs[k]).map fun g=>(fre g).2)≤2400:=Nat.le_trans (freM_le hpo (Nat.le_refl _)) (by omega)
   have hNk:Hid (∀ (W:World) (u:Value),(∀ i (hi:i<L.length) (ky:i<fs.length),OwnN w.heap.size L[i] (fre fs[i]).1 W)→OwnN w.heap.size u (fre fs[k]).1 W→∀ i (hi:i<(L++[u]).length) (ky:i<fs.length),OwnN w.heap.size (L++[u])[i] (fre fs[i]).1 W):=fun W u hW hu i hi ky=>by
    by_cases hik:i<L.length
    ·rw [List.getElem_append_left hik]
     exact hW i hik ky
    ·have:i=k:=by simp at hi;omega
     subst this
     rw [List.getElem_append_right (by omega)]
     simpa using hu
   obtain ⟨-,pv,cv,rfl, -⟩:=FV
   obtain ⟨pt,ct,rfl, -⟩:=FT.form
   obtain ⟨ps,cs,rfl, -⟩:=FS.form
   obtain ⟨pr,cr,rfl, -⟩:=FR.form
   clear FC FT FS FR hq hMx hfe hokk hnk hpk hpo hE ht0 hn9 hr9 hr8 h256 hmm hsum hfl hplen
   generalize mx ((ptsF fs[k]).map fun g=>(fre g).2)=M2 at*
   generalize (fre fs[k]).1=R at*
   generalize (fre fs[k]).2=M3 at*
   generalize fs[k].k=tk at*
   generalize fs[k].nm=nm at*
   generalize fs[k].op=top at*
   generalize fs[k].lo=lo at*
   generalize fs[k].hi=ihi at*
   generalize fs[k].opn=o at*
   generalize fs[k].vars.length=nv at*
   generalize fs[k].terms.length=nt at*
   generalize fs[k].subs.length=ns at*
   generalize fs[k].rgx.length=nr at*
   go_wp2_with fail
   refine (cP.out _ (hB.alloc hsz _)).mono ?_
   rintro r w1 ⟨v1,rfl,hF1,hb1⟩
   obtain ⟨hB1,hn1⟩:=bgX (n:=wr.heap.size) (W0:=wr) (by go_grown) (by go_size) hb1
   have hz1':wr.heap.size<w1.heap.size:=by have:=hb1.size;simp at this;omega
   have e0:w1.cell? ⟨wr.heap.size,0,none⟩=some (.int .i64 tk):=(hb1.cell (p:=⟨wr.heap.size,0,none⟩) (by first | (simp;done) | omega)).trans (by simp [go_sem])
   have e1:w1.cell? ⟨wr.heap.size,1,none⟩=some (.string nm):=(hb1.cell (p:=⟨wr.heap.size,1,none⟩) (by first | (simp;done) | omega)).trans (by simp [go_sem])
   have e2:w1.cell? ⟨wr.heap.size,2,none⟩=some (.int .i64 top):=(hb1.cell (p:=⟨wr.heap.size,2,none⟩) (by first | (simp;done) | omega)).trans (by simp [go_sem])
   have e3:w1.cell? ⟨wr.heap.size,3,none⟩=some (.slice pv nv cv):=(hb1.cell (p:=⟨wr.heap.size,3,none⟩) (by first | (simp;done) | omega)).trans (by simp [go_sem])
   have e4:w1.cell? ⟨wr.heap.size,4,none⟩=some (.slice pt nt ct):=(hb1.cell (p:=⟨wr.heap.size,4,none⟩) (by first | (simp;done) | omega)).trans (by simp [go_sem])
   have e5:w1.cell? ⟨wr.heap.size,5,none⟩=some (.int .i64 lo):=(hb1.cell (p:=⟨wr.heap.size,5,none⟩) (by first | (simp;done) | omega)).trans (by simp [go_sem])
   have e6:w1.cell? ⟨wr.heap.size,6,none⟩=some (.int .i64 ihi):=(hb1.cell (p:=⟨wr.heap.size,6,none⟩) (by first | (simp;done) | omega)).trans (by simp [go_sem])
   have e7:w1.cell? ⟨wr.heap.size,7,none⟩=some (.bool o):=(hb1.cell (p:=⟨wr.heap.size,7,none⟩) (by first | (simp;done) | omega)).trans (by simp [go_sem])
   have e8:w1.cell? ⟨wr.heap.size,8,none⟩=some (.slice ps ns cs):=(hb1.cell (p:=⟨wr.heap.size,8,none⟩) (by first | (simp;done) | omega)).trans (by simp [go_sem])
   have e9:w1.cell? ⟨wr.heap.size,9,none⟩=some (.slice pr nr cr):=(hb1.cell (p:=⟨wr.heap.size,9,none⟩) (by first | (simp;done) | omega)).trans (by simp [go_sem])
   clear hb1 cP a0 a1 a2 a3 a4 a5 a6 a7 a8 a9
   go_wp2_with fail
   refine (cE.out _ _ hF1).mono ?_
   rintro r w2 ⟨hb2,v2,us2,rfl,hL2⟩
   have e0:w2.cell? ⟨wr.heap.size,0,none⟩=some (.int .i64 tk):=(hb2.cell (p:=⟨wr.heap.size,0,none⟩) (by first | (simp;done) | omega)).trans (e0)
   have e1:w2.cell? ⟨wr.heap.size,1,none⟩=some (.string nm):=(hb2.cell (p:=⟨wr.heap.size,1,none⟩) (by first | (simp;done) | omega)).trans (e1)
   have e2:w2.cell? ⟨wr.heap.size,2,none⟩=some (.int .i64 top):=(hb2.cell (p:=⟨wr.heap.size,2,none⟩) (by first | (simp;done) | omega)).trans (e2)
   have e3:w2.cell? ⟨wr.heap.size,3,none⟩=some (.slice pv nv cv):=(hb2.cell (p:=⟨wr.heap.size,3,none⟩) (by first | (simp;done) | omega)).trans (e3)
   have e4:w2.cell? ⟨wr.heap.size,4,none⟩=some (.slice pt nt ct):=(hb2.cell (p:=⟨wr.heap.size,4,none⟩) (by first | (simp;done) | omega)).trans (e4)
   have e5:w2.cell? ⟨wr.heap.size,5,none⟩=some (.int .i64 lo):=(hb2.cell (p:=⟨wr.heap.size,5,none⟩) (by first | (simp;done) | omega)).trans (e5)
   have e6:w2.cell? ⟨wr.heap.size,6,none⟩=some (.int .i64 ihi):=(hb2.cell (p:=⟨wr.heap.size,6,none⟩) (by first | (simp;done) | omega)).trans (e6)
   have e7:w2.cell? ⟨wr.heap.size,7,none⟩=some (.bool o):=(hb2.cell (p:=⟨wr.heap.size,7,none⟩) (by first | (simp;done) | omega)).trans (e7)
   have e8:w2.cell? ⟨wr.heap.size,8,none⟩=some (.slice ps ns cs):=(hb2.cell (p:=⟨wr.heap.size,8,none⟩) (by first | (simp;done) | omega)).trans (e8)
   have e9:w2.cell? ⟨wr.heap.size,9,none⟩=some (.slice pr nr cr):=(hb2.cell (p:=⟨wr.heap.size,9,none⟩) (by first | (simp;done) | omega)).trans (e9)
   have hB2:Below wr.heap.size wr w2:=hB1.trans (hb2.mono hn1)
   have hz2':wr.heap.size<w2.heap.size:=Nat.lt_of_lt_of_le hz1' hb2.size
   have HL2:Hid (OwnLN w.heap.size v2 us2 ((ptsF fs[k]).map fun g=>(fre g).1) w2):=⟨own_monoB hL2.1 (Nat.le_trans hsz hn1),hL2.2.1,hL2.2.2.1,fun i hi hy=>own_monoB (hL2.2.2.2 i hi hy) (Nat.le_trans hsz hn1)⟩
   clear hb2 cE hF1 hL2 hB1 hn1 hz1'
   go_wp2_with fail
   refine (cO.out _ _ us2 (hB.trans (hB2.mono hsz)) HL2.out).mono ?_
   rintro r w3 ⟨v3,rfl,hN3,hb3⟩
   have hB3:Below wr.heap.size wr w3:=hB2.trans (hb3.mono (Nat.le_of_lt hz2'))
   have hO3:Hid (OwnL w.heap.size u2 L w3):=hO.out.bel hB3
   have hNo:Hid (∀ i (hi:i<L.length) (ky:i<fs.length),OwnN w.heap.size L[i] (fre fs[i]).1 w3):=fun i hi ky=>(hN.out i hi ky).bel hB3
   have hN5:Hid (OwnN w.heap.size v3 R w3):=hN3
   obtain ⟨p3,c3,rfl, -⟩:=hN3.cap
   have hz3:w.heap.size≤w3.heap.size:=Nat.le_trans hsz hB3.size
   have hBw:Below w.heap.size w w3:=hB.trans (hB3.mono hsz)
   clear hb3 cO hN3 HL2 hO hN e0 e1 e2 e3 e4 e5 e6 e7 e8 e9
   go_wp2_with (at_builtin;refine wpList_append_own _ rfl _ _ 121 rfl w.heap.size 22 i0 (.slice none 0 0) 1 24 Tryz.underlying121 hi hz0 hz1 hz2 rfl (by decide) _ _ _ rfl (World.ownsRow.alloc hO3.out _) ⟨w3.heap.size,0,none⟩ 1 1 [.slice p3 R.length c3] rfl rfl ?cc1 ?cc2 ?cc3 ?cc4 ?cc5 ?_)
   case cc1=>(intro j u hj;rw [Addr.add_lit];(rcases j with _ | j)<;>simp at hj<;>subst hj<;>simp (maxDischargeDepth:=12) [go_sem])
   case cc2=>(intro u hu;simp at hu;subst hu;rfl)
   case cc3=>unfold maxLen;omega
   case cc4=>omega
   case cc5=>first | omega | (simp;omega)
   intro v' w4 h2 h3 _
   have O4:Hid (OwnL w.heap.size v' (L++[.slice p3 R.length c3]) w4):=by
    show w4.ownsRow _ _ _ _ _ _
    rw [List.length_append,hLk]
    exact h2
   have B4:Below w.heap.size w w4:=Below.grown (hBw.alloc hz3 _) h3 (by simp;omega) (fun q hq=>(HK.out q hq).1)
   have KP:Hid (∀ (v:Value) (vs:List ByteArray),OwnN w.heap.size v vs w3→OwnN w.heap.size v vs w4):=fun v vs hv=>by
    refine World.ownsRow.kept (World.ownsRow.alloc hv _) h3 ?_
    cases hq:v.ownBlock with
    | none=>exact Or.inl rfl
    | some q=>exact Or.inr (fun h=>own_apart hv hO3.out (by decide) q hq h.symm)
   have B34:Hid (∀ i (hi:i<(L++[Value.slice p3 R.length c3]).length) (ky:i<fs.length),OwnN w.heap.size (L++[Value.slice p3 R.length c3])[i] (fre fs[i]).1 w4):=hNk.out w4 _ (fun i hi ky=>KP.out _ _ (hNo.out i hi ky)) (KP.out _ _ hN5.out)
   have hMM:Hid (mx ((fs.take (k+1)).map fun f=>(fre f).2)=max M (max M2 R.length)):=by unfold Hid;rw [hM4.out,hM5.out]
   clear h2 h3 HK hO3 KP hNo hN5 hNk hM4 hM5
   generalize R.length=lR at*
   go_wp2
   exact ⟨⟨k+1,max M (max M2 lR),L++[Value.slice p3 lR c3],by omega,by go_num,by congr 1;(repeat' split)<;>omega,by omega,hMM.out.symm,by simp;omega,B4,O4,B34⟩,by simp [intOf];omega⟩
end Go.Proofs.YticnfeolbfmgfaaGreatDoor
