/- What the claims of this seat share: base. -/
import Derived.Test.YticnfeolbfmgfaaGreatDoorZ05
import Derived.Shelf.Strings.SlTrimAscii
set_option maxRecDepth 100000
set_option maxHeartbeats 8000000
namespace Go.Proofs.YticnfeolbfmgfaaGreatDoor
open Go.RowKit LX Go.Shelf
set_option linter.unusedVariables false
theorem regexes_step (m R sz N:Nat) (d:Int) (pt:List (Tok Val)→Rd Rx) (hsh:Shr pt) (HT:∀ (ts:List (Tok Val)) (W:World),ts.length≤N→RdAt m W R sz ts→Calls Tryz.prog 188 #[.pointer (some ⟨R,0,none⟩),.int .i64 d] W (RdO m R sz W (RxV W) (pt ts))) (n k:Nat) (ts:List (Tok Val)) (w:World) (hN:ts.length≤N) (hn:ts.length<n) (h:RdAt m w R sz ts):
  Calls Tryz.prog 158 #[.pointer (some ⟨R,0,none⟩),.int .i64 k,.int .i64 d] w (RdO m R sz w (fun l v w'=>RxsOwn (fun q=>w.heap.size≤q) w' v l) (rMany pt false n k ts)):=by
 obtain ⟨i0,hi,hz0,hz1,hz2⟩:=info_parts inRxQ
 have hlt:=h.lt
 have HT9:Hid (∀ (ts:List (Tok Val)) (W:World),ts.length≤N→RdAt m W R sz ts→Calls Tryz.prog 188 #[.pointer (some ⟨R,0,none⟩),.int .i64 d] W (RdO m R sz W (RxV W) (pt ts))):=HT
 have HSH:Hid (Shr pt):=hsh
 obtain ⟨RS,hRS⟩:∃ x:Rd (List Rx),Hid (rMany pt false n k ts=x):=⟨_,rfl⟩
 rw [hRS.out]
 have A0:Hid (RdAt m w R sz ts):=h
 have hmn:=h.many
 clear h HT hsh
 go_enter Tryz.func158,Tryz.ntmps158
 go_wp2
 go_loopw [7,9] (fun v c wr=>∃ (L:List (Rx×(Value×Value))) (r:List (Tok Val)) (n':Nat),c=.int .i64 (L.length:Nat)∧L.length≤k∧Hid (rMany pt false n k ts=(rMany pt false n' (k - L.length) r).bind fun l r'=>.ok (L.map Prod.fst++l) r')∧r.length<n'∧L.length+r.length≤ts.length∧Hid (RdAt m wr R sz r)∧Hid (Fr (fun k=>k=R) w wr)∧Hid (wr.ownsRow w.heap.size 91 3 v L.length (flatR L))∧Hid (∀ x∈L,FmsOwn (fun q=>w.heap.size≤q∧v.ownBlock≠some q) wr x.2.1 x.1.test∧RxsOwn (fun q=>w.heap.size≤q∧v.ownBlock≠some q) wr x.2.2 x.1.subs)) (fun _ _ wr=>rdLen R wr)
 case atStart=>exact ⟨[],ts,n,rfl,by simp,(Rd.bind_id _ _ (fun a=>rfl)).symm,hn,by simp,A0,Fr.refl _ _,⟨rfl,.inl ⟨rfl,rfl⟩⟩,fun x hx=>by simp at hx⟩
 case round=>
  obtain ⟨L,r,n',rfl,hLk,hE,hr,hLr,hA,hF,hO,hS⟩:=hrel
  have HL:=hA.out.len
  have hsz:=hF.out.size
  obtain ⟨n2,rfl⟩:∃ n2,n'=n2+1:=⟨n' - 1,by omega⟩
  have HK:Hid (∀ q,u7.ownBlock=some q→w.heap.size≤q):=fun q hq=>(World.ownsRow.lt hO.out q hq).1
  have HKw:Hid (∀ q,u7.ownBlock=some q→q<wr.heap.size):=fun q hq=>own_lt hO.out hq
  obtain ⟨p9,c9,rfl⟩:=row_form hO.out
  have cT:Hid (Calls Tryz.prog 188 #[.pointer (some ⟨R,0,none⟩),.int .i64 d] wr (RdO m R sz wr (RxV wr) (pt r))):=HT9.out r wr (by omega) hA.out
  by_cases hgo:L.length<k
  case neg=>
   have hG:Hid (RS=.ok (L.map Prod.fst) r):=by
    show _=_
    rw [← hRS.out,hE.out,rMany_end (by simp;omega),Rd.bind_ok,List.append_nil]
   have hO9:Hid (RxsOwn (fun q=>w.heap.size≤q) wr (.slice p9 L.length c9) (L.map Prod.fst)):=by
    have ho:=hO.out
    refine .mk L rfl (by simp;omega) ?_ (fun q hq=>(World.ownsRow.lt ho q hq).1) (fun x hx=>(hS.out x hx).1.mono fun q hq _=>hq.1) (fun x hx=>(hS.out x hx).2.mono fun q hq _=>hq.1)
    rw [List.length_map]
    exact own_monoB ho (Nat.zero_le _)
   have g1:¬ (L.length:Int)<(k:Int):=by omega
   clear hE cT HT9 hS hRS hO HL
   go_wp2
   go_ret
   rw [hG.out]
   exact ⟨_,rfl,hO9.out,hA.out,hF.out⟩
  have g1:(L.length:Int)<(k:Int):=by omega
  have hstep:Hid (rMany pt false (n2+1) (k - L.length) r=(pt r).bind fun a r=>(rMany pt false n2 (k - L.length - 1) r).bind fun l r'=>.ok (a::l) r'):=rMany_go (Or.inl (by omega))
  cases hP:pt r with
  | bad er a=>
   rw [hP] at cT
   have hG:Hid (RS=.bad er a):=by
    show _=_
    rw [← hRS.out,hE.out,hstep.out,hP,Rd.bind_bad,Rd.bind_bad]
   clear hE hstep hP hRS HT9 hS hO HL HSH
   go_wp2_with fail
   refine cT.out.mono ?_
   rintro e w3 ⟨rfl,hF3⟩
   refine ⟨rfl, ?_⟩
   rw [hG.out]
   exact ⟨rfl,hF.out.trans hF3 (fun k e=>Or.inl e)⟩
  | ok tt r2=>
   rw [hP] at cT
   have hsh2:=HSH.out r tt r2 hP
   have hE3:Hid (∀ u:Value×Value,rMany pt false n k ts=(rMany pt false n2 (k - (L++[(tt,u)]).length) r2).bind fun l r'=>.ok ((L++[(tt,u)]).map Prod.fst++l) r'):=fun u=>by
    rw [hE.out,hstep.out,hP,Rd.bind_ok,Rd.bind_assoc]
    have e:k - L.length - 1=k - (L++[(tt,u)]).length:=by simp;omega
    rw [e]
    simp only [Rd.bind_ok,List.map_append,List.map_cons,List.map_nil,List.append_assoc,List.cons_append,List.nil_append]
   clear hE hstep hP
   go_wp2_with fail
   refine cT.out.mono ?_
   rintro e w3 ⟨v3,rfl,⟨ua,ub,rfl,hQa,hQb⟩,hA3,hF3⟩
   have HQa:Hid (FmsOwn (fun q=>wr.heap.size≤q) w3 ua tt.test):=hQa
   have HQb:Hid (RxsOwn (fun q=>wr.heap.size≤q) w3 ub tt.subs):=hQb
   obtain ⟨pa,ca,rfl, -⟩:=hQa.at.form
   obtain ⟨pb,cb,rfl, -⟩:=hQb.at.form
   clear hQa hQb
   have F3:Hid (Fr (fun k=>k=R) w w3):=hF.out.trans hF3 (fun k e=>Or.inl e)
   have A3:Hid (RdAt m w3 R sz r2):=hA3
   have G3:Hid (Fr (fun k=>k=R) wr w3):=hF3
   have O3:Hid (w3.ownsRow w.heap.size 91 3 (.slice p9 L.length c9) L.length (flatR L)):=hF3.row hO.out (fun k hk e=>by have:=HK.out k hk;omega)
   have hsz3:wr.heap.size≤w3.heap.size:=hF3.size
   have hcs:Hid (∀ q:Value×Value,flatR [(tt,q)]=[.int .i64 tt.k,q.1,q.2]):=fun q=>rfl
   clear hF3 hA3 cT hF hA hO
   generalize tt.k=tk at*
   generalize tt.test.length=na at*
   generalize tt.subs.length=nb at*
   go_wp2_with (at_builtin;refine wpList_append_own_at _ rfl _ _ 27 rfl w.heap.size 91 i0 (.agg #[.int .i64 0,.slice none 0 0,.slice none 0 0]) 3 56 Tryz.underlying27 hi hz0 hz1 hz2 rfl (by decide) _ _ _ rfl (World.ownsRow.alloc O3.out _) ⟨w3.heap.size,0,none⟩ 1 1 [.int .i64 tk,.slice pa na ca,.slice pb nb cb] rfl rfl ?cc1 ?cc2 ?cc3 ?cc4 ?cc5 ?_)
   case cc1=>(intro j u hj;rw [Addr.add_lit];(rcases j with _ | _ | _ | j)<;>simp at hj<;>subst hj<;>simp (maxDischargeDepth:=16) [go_sem])
   case cc2=>first | rfl | (intro u hu;simp at hu;rcases hu with rfl | rfl | rfl<;>rfl)
   case cc3=>unfold maxLen;omega
   case cc4=>omega
   case cc5=>first | omega | (simp;omega)
   intro v' w4 h2 h3 _ h5
   have O4:Hid (w4.ownsRow w.heap.size 91 3 v' (L++[(tt,(Value.slice pa na ca,Value.slice pb nb cb))]).length (flatR (L++[(tt,(Value.slice pa na ca,Value.slice pb nb cb))]))):=by
    unfold Hid
    rw [flatR_append,hcs.out,List.length_append]
    exact h2
   have F4:Hid (Fr (fun k=>k=R) w w4):=(F3.out.alloc _).grown h3 (fun k e=>Or.inr (HK.out k e))
   have A4:Hid (RdAt m w4 R sz r2):=(A3.out.below ((Below.refl _ _).alloc (Nat.le_refl _) _)).fr (P:=fun k=>w.heap.size≤k) ((Fr.refl _ _).grown h3 (fun k e=>Or.inl (HK.out k e))) (fun k e=>by omega)
   have HL4:=A4.out.len
   have blk:Hid (∀ q,q<w3.heap.size→(Value.slice p9 L.length c9).ownBlock≠some q→w4.heap[q]? =w3.heap[q]?):=fun q hq hne=>(h3.block q (by simp;omega) (fun h=>hne h.symm)).trans (Below.heap_alloc _ _ q hq)
   have h50:v'.ownBlock=(Value.slice p9 L.length c9).ownBlock∨v'.ownBlock=some (w3.heap.size+1):=by simpa using h5
   have h5':Hid (v'.ownBlock=(Value.slice p9 L.length c9).ownBlock∨v'.ownBlock=some (w3.heap.size+1)):=h50
   have K1:Hid (∀ q,((w.heap.size≤q∧(Value.slice p9 L.length c9).ownBlock≠some q)∧q<wr.heap.size)→w4.heap[q]? =wr.heap[q]?):=fun q h1=>(blk.out q (by omega) h1.1.2).trans (G3.out.block q h1.2 (fun e=>by omega))
   have K2:Hid (∀ q,((w.heap.size≤q∧(Value.slice p9 L.length c9).ownBlock≠some q)∧q<wr.heap.size)→w.heap.size≤q∧v'.ownBlock≠some q):=fun q h1=>⟨h1.1.1,by
    rcases h5'.out with h5 | h5
    ·rw [h5];exact h1.1.2
    ·rw [h5];intro h;injection h with h;omega⟩
   have K3:Hid (∀ q,(wr.heap.size≤q∧q<w3.heap.size)→w4.heap[q]? =w3.heap[q]?):=fun q h1=>blk.out q h1.2 (fun h=>by have:=HKw.out q h;omega)
   have K4:Hid (∀ q,(wr.heap.size≤q∧q<w3.heap.size)→w.heap.size≤q∧v'.ownBlock≠some q):=fun q h1=>⟨by omega,by
    rcases h5'.out with h5 | h5
    ·rw [h5];intro h;have:=HKw.out q h;omega
    ·rw [h5];intro h;injection h with h;omega⟩
   have S4:Hid (∀ x∈L++[(tt,(Value.slice pa na ca,Value.slice pb nb cb))],FmsOwn (fun q=>w.heap.size≤q∧v'.ownBlock≠some q) w4 x.2.1 x.1.test∧RxsOwn (fun q=>w.heap.size≤q∧v'.ownBlock≠some q) w4 x.2.2 x.1.subs):=fun x hx=>by
    rcases List.mem_append.1 hx with hx | hx
    ·obtain ⟨a,b⟩:=hS.out x hx
     exact ⟨((a.mono (P':=fun q=>(w.heap.size≤q∧(Value.slice p9 L.length c9).ownBlock≠some q)∧q<wr.heap.size) fun q h1 h2=>⟨h1,h2⟩).keep (w':=w4) fun q h1 h2=>K1.out q h1).mono fun q h1 _=>K2.out q h1,((b.mono (P':=fun q=>(w.heap.size≤q∧(Value.slice p9 L.length c9).ownBlock≠some q)∧q<wr.heap.size) fun q h1 h2=>⟨h1,h2⟩).keep (w':=w4) fun q h1 h2=>K1.out q h1).mono fun q h1 _=>K2.out q h1⟩
    ·simp only [List.mem_singleton] at hx
     subst hx
     exact ⟨((HQa.out.mono (P':=fun q=>wr.heap.size≤q∧q<w3.heap.size) fun q h1 h2=>⟨h1,h2⟩).keep (w':=w4) fun q h1 h2=>K3.out q h1).mono fun q h1 _=>K4.out q h1,((HQb.out.mono (P':=fun q=>wr.heap.size≤q∧q<w3.heap.size) fun q h1 h2=>⟨h1,h2⟩).keep (w':=w4) fun q h1 h2=>K3.out q h1).mono fun q h1 _=>K4.out q h1⟩
   clear h2 h3 h5 h50 HK O3 hS blk HQa HQb h5' HKw hcs HT9 K1 K2 K3 K4
   go_wp2
   exact ⟨⟨L++[(tt,(Value.slice pa na ca,Value.slice pb nb cb))],r2,n2,(by first | rfl | (simp;done) | go_num | (simp;go_num)),(by rw [List.length_append,List.length_singleton];omega),hE3.out _,by omega,(by rw [List.length_append,List.length_singleton];omega),A4,F4,O4,S4⟩,by omega⟩
theorem bx3 {w:World} {B T:Nat} {a0 a1 a2:Value} (h:w.heap[B]? =some (.cells #[a0,a1,a2] T (0,0))):w.cell? ⟨B,0,none⟩=some a0∧w.cell? ⟨B,1,none⟩=some a1∧w.cell? ⟨B,2,none⟩=some a2:=by
 have e:∀ j,w.cell? ⟨B,j,none⟩=(#[a0,a1,a2]:Array Value)[j]?:=fun j=>by rw [Lib.cell_of_heap h]
 exact ⟨e 0,e 1,e 2⟩
theorem bz3 {w:World} {B T:Nat} {a0 a1 a2:Value} (h:w.heap[B]? =some (.cells #[a0,a1,a2] T (0,0))):w.frozen? ⟨B,0,none⟩=false∧w.frozen? ⟨B,1,none⟩=false∧w.frozen? ⟨B,2,none⟩=false:=⟨Lib.frozen_of_heap h _,Lib.frozen_of_heap h _,Lib.frozen_of_heap h _⟩
theorem put3 {w:World} {B T:Nat} {a0 a1 a2 v0 v1 v2:Value} (h:w.heap[B]? =some (.cells #[a0,a1,a2] T (0,0))):(((w.setCell ⟨B,0,none⟩ v0).setCell ⟨B,1,none⟩ v1).setCell ⟨B,2,none⟩ v2).heap[B]? =some (.cells #[v0,v1,v2] T (0,0)):=by
 have h0:(w.setCell ⟨B,0,none⟩ v0).heap[B]? =some (.cells #[v0,a1,a2] T (0,0)):=set_heap (j:=0) h v0
 have h1:((w.setCell ⟨B,0,none⟩ v0).setCell ⟨B,1,none⟩ v1).heap[B]? =some (.cells #[v0,v1,a2] T (0,0)):=set_heap (j:=1) h0 v1
 have h2:(((w.setCell ⟨B,0,none⟩ v0).setCell ⟨B,1,none⟩ v1).setCell ⟨B,2,none⟩ v2).heap[B]? =some (.cells #[v0,v1,v2] T (0,0)):=set_heap (j:=2) h1 v2
 exact h2
theorem frp3 {P:Nat→Prop} {B:Nat} {w W:World} (h:Fr P w W) (hB:P B∨w.heap.size≤B) (v0 v1 v2:Value):Fr P w (((W.setCell ⟨B,0,none⟩ v0).setCell ⟨B,1,none⟩ v1).setCell ⟨B,2,none⟩ v2):=(((h.setCell (p:=⟨B,0,none⟩) hB _).setCell (p:=⟨B,1,none⟩) hB _).setCell (p:=⟨B,2,none⟩) hB _)
theorem bx7 {w:World} {B T:Nat} {a0 a1 a2 a3 a4 a5 a6:Value} (h:w.heap[B]? =some (.cells #[a0,a1,a2,a3,a4,a5,a6] T (0,0))):w.cell? ⟨B,0,none⟩=some a0∧w.cell? ⟨B,1,none⟩=some a1∧w.cell? ⟨B,2,none⟩=some a2∧w.cell? ⟨B,3,none⟩=some a3∧w.cell? ⟨B,4,none⟩=some a4∧w.cell? ⟨B,5,none⟩=some a5∧w.cell? ⟨B,6,none⟩=some a6:=by
 have e:∀ j,w.cell? ⟨B,j,none⟩=(#[a0,a1,a2,a3,a4,a5,a6]:Array Value)[j]?:=fun j=>by rw [Lib.cell_of_heap h]
 exact ⟨e 0,e 1,e 2,e 3,e 4,e 5,e 6⟩
theorem bz7 {w:World} {B T:Nat} {a0 a1 a2 a3 a4 a5 a6:Value} (h:w.heap[B]? =some (.cells #[a0,a1,a2,a3,a4,a5,a6] T (0,0))):w.frozen? ⟨B,0,none⟩=false∧w.frozen? ⟨B,1,none⟩=false∧w.frozen? ⟨B,2,none⟩=false∧w.frozen? ⟨B,3,none⟩=false∧w.frozen? ⟨B,4,none⟩=false∧w.frozen? ⟨B,5,none⟩=false∧w.frozen? ⟨B,6,none⟩=false:=⟨Lib.frozen_of_heap h _,Lib.frozen_of_heap h _,Lib.frozen_of_heap h _,Lib.frozen_of_heap h _,Lib.frozen_of_heap h _,Lib.frozen_of_heap h _,Lib.frozen_of_heap h _⟩
theorem put7 {w:World} {B T:Nat} {a0 a1 a2 a3 a4 a5 a6 v0 v1 v2 v3 v4 v5 v6:Value} (h:w.heap[B]? =some (.cells #[a0,a1,a2,a3,a4,a5,a6] T (0,0))):(((((((w.setCell ⟨B,0,none⟩ v0).setCell ⟨B,1,none⟩ v1).setCell ⟨B,2,none⟩ v2).setCell ⟨B,3,none⟩ v3).setCell ⟨B,4,none⟩ v4).setCell ⟨B,5,none⟩ v5).setCell ⟨B,6,none⟩ v6).heap[B]? =some (.cells #[v0,v1,v2,v3,v4,v5,v6] T (0,0)):=by
 have h0:(w.setCell ⟨B,0,none⟩ v0).heap[B]? =some (.cells #[v0,a1,a2,a3,a4,a5,a6] T (0,0)):=set_heap (j:=0) h v0
 have h1:((w.setCell ⟨B,0,none⟩ v0).setCell ⟨B,1,none⟩ v1).heap[B]? =some (.cells #[v0,v1,a2,a3,a4,a5,a6] T (0,0)):=set_heap (j:=1) h0 v1
 have h2:(((w.setCell ⟨B,0,none⟩ v0).setCell ⟨B,1,none⟩ v1).setCell ⟨B,2,none⟩ v2).heap[B]? =some (.cells #[v0,v1,v2,a3,a4,a5,a6] T (0,0)):=set_heap (j:=2) h1 v2
 have h3:((((w.setCell ⟨B,0,none⟩ v0).setCell ⟨B,1,none⟩ v1).setCell ⟨B,2,none⟩ v2).setCell ⟨B,3,none⟩ v3).heap[B]? =some (.cells #[v0,v1,v2,v3,a4,a5,a6] T (0,0)):=set_heap (j:=3) h2 v3
 have h4:(((((w.setCell ⟨B,0,none⟩ v0).setCell ⟨B,1,none⟩ v1).setCell ⟨B,2,none⟩ v2).setCell ⟨B,3,none⟩ v3).setCell ⟨B,4,none⟩ v4).heap[B]? =some (.cells #[v0,v1,v2,v3,v4,a5,a6] T (0,0)):=set_heap (j:=4) h3 v4
 have h5:((((((w.setCell ⟨B,0,none⟩ v0).setCell ⟨B,1,none⟩ v1).setCell ⟨B,2,none⟩ v2).setCell ⟨B,3,none⟩ v3).setCell ⟨B,4,none⟩ v4).setCell ⟨B,5,none⟩ v5).heap[B]? =some (.cells #[v0,v1,v2,v3,v4,v5,a6] T (0,0)):=set_heap (j:=5) h4 v5
 have h6:(((((((w.setCell ⟨B,0,none⟩ v0).setCell ⟨B,1,none⟩ v1).setCell ⟨B,2,none⟩ v2).setCell ⟨B,3,none⟩ v3).setCell ⟨B,4,none⟩ v4).setCell ⟨B,5,none⟩ v5).setCell ⟨B,6,none⟩ v6).heap[B]? =some (.cells #[v0,v1,v2,v3,v4,v5,v6] T (0,0)):=set_heap (j:=6) h5 v6
 exact h6
theorem frp7 {P:Nat→Prop} {B:Nat} {w W:World} (h:Fr P w W) (hB:P B∨w.heap.size≤B) (v0 v1 v2 v3 v4 v5 v6:Value):Fr P w (((((((W.setCell ⟨B,0,none⟩ v0).setCell ⟨B,1,none⟩ v1).setCell ⟨B,2,none⟩ v2).setCell ⟨B,3,none⟩ v3).setCell ⟨B,4,none⟩ v4).setCell ⟨B,5,none⟩ v5).setCell ⟨B,6,none⟩ v6):=(((((((h.setCell (p:=⟨B,0,none⟩) hB _).setCell (p:=⟨B,1,none⟩) hB _).setCell (p:=⟨B,2,none⟩) hB _).setCell (p:=⟨B,3,none⟩) hB _).setCell (p:=⟨B,4,none⟩) hB _).setCell (p:=⟨B,5,none⟩) hB _).setCell (p:=⟨B,6,none⟩) hB _)
theorem bx9 {w:World} {B T:Nat} {a0 a1 a2 a3 a4 a5 a6 a7 a8:Value} (h:w.heap[B]? =some (.cells #[a0,a1,a2,a3,a4,a5,a6,a7,a8] T (0,0))):w.cell? ⟨B,0,none⟩=some a0∧w.cell? ⟨B,1,none⟩=some a1∧w.cell? ⟨B,2,none⟩=some a2∧w.cell? ⟨B,3,none⟩=some a3∧w.cell? ⟨B,4,none⟩=some a4∧w.cell? ⟨B,5,none⟩=some a5∧w.cell? ⟨B,6,none⟩=some a6∧w.cell? ⟨B,7,none⟩=some a7∧w.cell? ⟨B,8,none⟩=some a8:=by
 have e:∀ j,w.cell? ⟨B,j,none⟩=(#[a0,a1,a2,a3,a4,a5,a6,a7,a8]:Array Value)[j]?:=fun j=>by rw [Lib.cell_of_heap h]
 exact ⟨e 0,e 1,e 2,e 3,e 4,e 5,e 6,e 7,e 8⟩
theorem bz9 {w:World} {B T:Nat} {a0 a1 a2 a3 a4 a5 a6 a7 a8:Value} (h:w.heap[B]? =some (.cells #[a0,a1,a2,a3,a4,a5,a6,a7,a8] T (0,0))):w.frozen? ⟨B,0,none⟩=false∧w.frozen? ⟨B,1,none⟩=false∧w.frozen? ⟨B,2,none⟩=false∧w.frozen? ⟨B,3,none⟩=false∧w.frozen? ⟨B,4,none⟩=false∧w.frozen? ⟨B,5,none⟩=false∧w.frozen? ⟨B,6,none⟩=false∧w.frozen? ⟨B,7,none⟩=false∧w.frozen? ⟨B,8,none⟩=false:=⟨Lib.frozen_of_heap h _,Lib.frozen_of_heap h _,Lib.frozen_of_heap h _,Lib.frozen_of_heap h _,Lib.frozen_of_heap h _,Lib.frozen_of_heap h _,Lib.frozen_of_heap h _,Lib.frozen_of_heap h _,Lib.frozen_of_heap h _⟩
theorem put9 {w:World} {B T:Nat} {a0 a1 a2 a3 a4 a5 a6 a7 a8 v0 v1 v2 v3 v4 v5 v6 v7 v8:Value} (h:w.heap[B]? =some (.cells #[a0,a1,a2,a3,a4,a5,a6,a7,a8] T (0,0))):(((((((((w.setCell ⟨B,0,none⟩ v0).setCell ⟨B,1,none⟩ v1).setCell ⟨B,2,none⟩ v2).setCell ⟨B,3,none⟩ v3).setCell ⟨B,4,none⟩ v4).setCell ⟨B,5,none⟩ v5).setCell ⟨B,6,none⟩ v6).setCell ⟨B,7,none⟩ v7).setCell ⟨B,8,none⟩ v8).heap[B]? =some (.cells #[v0,v1,v2,v3,v4,v5,v6,v7,v8] T (0,0)):=by
 have h0:(w.setCell ⟨B,0,none⟩ v0).heap[B]? =some (.cells #[v0,a1,a2,a3,a4,a5,a6,a7,a8] T (0,0)):=set_heap (j:=0) h v0
 have h1:((w.setCell ⟨B,0,none⟩ v0).setCell ⟨B,1,none⟩ v1).heap[B]? =some (.cells #[v0,v1,a2,a3,a4,a5,a6,a7,a8] T (0,0)):=set_heap (j:=1) h0 v1
 have h2:(((w.setCell ⟨B,0,none⟩ v0).setCell ⟨B,1,none⟩ v1).setCell ⟨B,2,none⟩ v2).heap[B]? =some (.cells #[v0,v1,v2,a3,a4,a5,a6,a7,a8] T (0,0)):=set_heap (j:=2) h1 v2
 have h3:((((w.setCell ⟨B,0,none⟩ v0).setCell ⟨B,1,none⟩ v1).setCell ⟨B,2,none⟩ v2).setCell ⟨B,3,none⟩ v3).heap[B]? =some (.cells #[v0,v1,v2,v3,a4,a5,a6,a7,a8] T (0,0)):=set_heap (j:=3) h2 v3
 have h4:(((((w.setCell ⟨B,0,none⟩ v0).setCell ⟨B,1,none⟩ v1).setCell ⟨B,2,none⟩ v2).setCell ⟨B,3,none⟩ v3).setCell ⟨B,4,none⟩ v4).heap[B]? =some (.cells #[v0,v1,v2,v3,v4,a5,a6,a7,a8] T (0,0)):=set_heap (j:=4) h3 v4
 have h5:((((((w.setCell ⟨B,0,none⟩ v0).setCell ⟨B,1,none⟩ v1).setCell ⟨B,2,none⟩ v2).setCell ⟨B,3,none⟩ v3).setCell ⟨B,4,none⟩ v4).setCell ⟨B,5,none⟩ v5).heap[B]? =some (.cells #[v0,v1,v2,v3,v4,v5,a6,a7,a8] T (0,0)):=set_heap (j:=5) h4 v5
 have h6:(((((((w.setCell ⟨B,0,none⟩ v0).setCell ⟨B,1,none⟩ v1).setCell ⟨B,2,none⟩ v2).setCell ⟨B,3,none⟩ v3).setCell ⟨B,4,none⟩ v4).setCell ⟨B,5,none⟩ v5).setCell ⟨B,6,none⟩ v6).heap[B]? =some (.cells #[v0,v1,v2,v3,v4,v5,v6,a7,a8] T (0,0)):=set_heap (j:=6) h5 v6
 have h7:((((((((w.setCell ⟨B,0,none⟩ v0).setCell ⟨B,1,none⟩ v1).setCell ⟨B,2,none⟩ v2).setCell ⟨B,3,none⟩ v3).setCell ⟨B,4,none⟩ v4).setCell ⟨B,5,none⟩ v5).setCell ⟨B,6,none⟩ v6).setCell ⟨B,7,none⟩ v7).heap[B]? =some (.cells #[v0,v1,v2,v3,v4,v5,v6,v7,a8] T (0,0)):=set_heap (j:=7) h6 v7
 have h8:(((((((((w.setCell ⟨B,0,none⟩ v0).setCell ⟨B,1,none⟩ v1).setCell ⟨B,2,none⟩ v2).setCell ⟨B,3,none⟩ v3).setCell ⟨B,4,none⟩ v4).setCell ⟨B,5,none⟩ v5).setCell ⟨B,6,none⟩ v6).setCell ⟨B,7,none⟩ v7).setCell ⟨B,8,none⟩ v8).heap[B]? =some (.cells #[v0,v1,v2,v3,v4,v5,v6,v7,v8] T (0,0)):=set_heap (j:=8) h7 v8
 exact h8
theorem frp9 {P:Nat→Prop} {B:Nat} {w W:World} (h:Fr P w W) (hB:P B∨w.heap.size≤B) (v0 v1 v2 v3 v4 v5 v6 v7 v8:Value):Fr P w (((((((((W.setCell ⟨B,0,none⟩ v0).setCell ⟨B,1,none⟩ v1).setCell ⟨B,2,none⟩ v2).setCell ⟨B,3,none⟩ v3).setCell ⟨B,4,none⟩ v4).setCell ⟨B,5,none⟩ v5).setCell ⟨B,6,none⟩ v6).setCell ⟨B,7,none⟩ v7).setCell ⟨B,8,none⟩ v8):=(((((((((h.setCell (p:=⟨B,0,none⟩) hB _).setCell (p:=⟨B,1,none⟩) hB _).setCell (p:=⟨B,2,none⟩) hB _).setCell (p:=⟨B,3,none⟩) hB _).setCell (p:=⟨B,4,none⟩) hB _).setCell (p:=⟨B,5,none⟩) hB _).setCell (p:=⟨B,6,none⟩) hB _).setCell (p:=⟨B,7,none⟩) hB _).setCell (p:=⟨B,8,none⟩) hB _)
theorem bx10 {w:World} {B T:Nat} {a0 a1 a2 a3 a4 a5 a6 a7 a8 a9:Value} (h:w.heap[B]? =some (.cells #[a0,a1,a2,a3,a4,a5,a6,a7,a8,a9] T (0,0))):w.cell? ⟨B,0,none⟩=some a0∧w.cell? ⟨B,1,none⟩=some a1∧w.cell? ⟨B,2,none⟩=some a2∧w.cell? ⟨B,3,none⟩=some a3∧w.cell? ⟨B,4,none⟩=some a4∧w.cell? ⟨B,5,none⟩=some a5∧w.cell? ⟨B,6,none⟩=some a6∧w.cell? ⟨B,7,none⟩=some a7∧w.cell? ⟨B,8,none⟩=some a8∧w.cell? ⟨B,9,none⟩=some a9:=by
 have e:∀ j,w.cell? ⟨B,j,none⟩=(#[a0,a1,a2,a3,a4,a5,a6,a7,a8,a9]:Array Value)[j]?:=fun j=>by rw [Lib.cell_of_heap h]
 exact ⟨e 0,e 1,e 2,e 3,e 4,e 5,e 6,e 7,e 8,e 9⟩
theorem bz10 {w:World} {B T:Nat} {a0 a1 a2 a3 a4 a5 a6 a7 a8 a9:Value} (h:w.heap[B]? =some (.cells #[a0,a1,a2,a3,a4,a5,a6,a7,a8,a9] T (0,0))):w.frozen? ⟨B,0,none⟩=false∧w.frozen? ⟨B,1,none⟩=false∧w.frozen? ⟨B,2,none⟩=false∧w.frozen? ⟨B,3,none⟩=false∧w.frozen? ⟨B,4,none⟩=false∧w.frozen? ⟨B,5,none⟩=false∧w.frozen? ⟨B,6,none⟩=false∧w.frozen? ⟨B,7,none⟩=false∧w.frozen? ⟨B,8,none⟩=false∧w.frozen? ⟨B,9,none⟩=false:=⟨Lib.frozen_of_heap h _,Lib.frozen_of_heap h _,Lib.frozen_of_heap h _,Lib.frozen_of_heap h _,Lib.frozen_of_heap h _,Lib.frozen_of_heap h _,Lib.frozen_of_heap h _,Lib.frozen_of_heap h _,Lib.frozen_of_heap h _,Lib.frozen_of_heap h _⟩
theorem put10 {w:World} {B T:Nat} {a0 a1 a2 a3 a4 a5 a6 a7 a8 a9 v0 v1 v2 v3 v4 v5 v6 v7 v8 v9:Value} (h:w.heap[B]? =some (.cells #[a0,a1,a2,a3,a4,a5,a6,a7,a8,a9] T (0,0))):((((((((((w.setCell ⟨B,0,none⟩ v0).setCell ⟨B,1,none⟩ v1).setCell ⟨B,2,none⟩ v2).setCell ⟨B,3,none⟩ v3).setCell ⟨B,4,none⟩ v4).setCell ⟨B,5,none⟩ v5).setCell ⟨B,6,none⟩ v6).setCell ⟨B,7,none⟩ v7).setCell ⟨B,8,none⟩ v8).setCell ⟨B,9,none⟩ v9).heap[B]? =some (.cells #[v0,v1,v2,v3,v4,v5,v6,v7,v8,v9] T (0,0)):=by
 have h0:(w.setCell ⟨B,0,none⟩ v0).heap[B]? =some (.cells #[v0,a1,a2,a3,a4,a5,a6,a7,a8,a9] T (0,0)):=set_heap (j:=0) h v0
 have h1:((w.setCell ⟨B,0,none⟩ v0).setCell ⟨B,1,none⟩ v1).heap[B]? =some (.cells #[v0,v1,a2,a3,a4,a5,a6,a7,a8,a9] T (0,0)):=set_heap (j:=1) h0 v1
 have h2:(((w.setCell ⟨B,0,none⟩ v0).setCell ⟨B,1,none⟩ v1).setCell ⟨B,2,none⟩ v2).heap[B]? =some (.cells #[v0,v1,v2,a3,a4,a5,a6,a7,a8,a9] T (0,0)):=set_heap (j:=2) h1 v2
 have h3:((((w.setCell ⟨B,0,none⟩ v0).setCell ⟨B,1,none⟩ v1).setCell ⟨B,2,none⟩ v2).setCell ⟨B,3,none⟩ v3).heap[B]? =some (.cells #[v0,v1,v2,v3,a4,a5,a6,a7,a8,a9] T (0,0)):=set_heap (j:=3) h2 v3
 have h4:(((((w.setCell ⟨B,0,none⟩ v0).setCell ⟨B,1,none⟩ v1).setCell ⟨B,2,none⟩ v2).setCell ⟨B,3,none⟩ v3).setCell ⟨B,4,none⟩ v4).heap[B]? =some (.cells #[v0,v1,v2,v3,v4,a5,a6,a7,a8,a9] T (0,0)):=set_heap (j:=4) h3 v4
 have h5:((((((w.setCell ⟨B,0,none⟩ v0).setCell ⟨B,1,none⟩ v1).setCell ⟨B,2,none⟩ v2).setCell ⟨B,3,none⟩ v3).setCell ⟨B,4,none⟩ v4).setCell ⟨B,5,none⟩ v5).heap[B]? =some (.cells #[v0,v1,v2,v3,v4,v5,a6,a7,a8,a9] T (0,0)):=set_heap (j:=5) h4 v5
 have h6:(((((((w.setCell ⟨B,0,none⟩ v0).setCell ⟨B,1,none⟩ v1).setCell ⟨B,2,none⟩ v2).setCell ⟨B,3,none⟩ v3).setCell ⟨B,4,none⟩ v4).setCell ⟨B,5,none⟩ v5).setCell ⟨B,6,none⟩ v6).heap[B]? =some (.cells #[v0,v1,v2,v3,v4,v5,v6,a7,a8,a9] T (0,0)):=set_heap (j:=6) h5 v6
 have h7:((((((((w.setCell ⟨B,0,none⟩ v0).setCell ⟨B,1,none⟩ v1).setCell ⟨B,2,none⟩ v2).setCell ⟨B,3,none⟩ v3).setCell ⟨B,4,none⟩ v4).setCell ⟨B,5,none⟩ v5).setCell ⟨B,6,none⟩ v6).setCell ⟨B,7,none⟩ v7).heap[B]? =some (.cells #[v0,v1,v2,v3,v4,v5,v6,v7,a8,a9] T (0,0)):=set_heap (j:=7) h6 v7
 have h8:(((((((((w.setCell ⟨B,0,none⟩ v0).setCell ⟨B,1,none⟩ v1).setCell ⟨B,2,none⟩ v2).setCell ⟨B,3,none⟩ v3).setCell ⟨B,4,none⟩ v4).setCell ⟨B,5,none⟩ v5).setCell ⟨B,6,none⟩ v6).setCell ⟨B,7,none⟩ v7).setCell ⟨B,8,none⟩ v8).heap[B]? =some (.cells #[v0,v1,v2,v3,v4,v5,v6,v7,v8,a9] T (0,0)):=set_heap (j:=8) h7 v8
 have h9:((((((((((w.setCell ⟨B,0,none⟩ v0).setCell ⟨B,1,none⟩ v1).setCell ⟨B,2,none⟩ v2).setCell ⟨B,3,none⟩ v3).setCell ⟨B,4,none⟩ v4).setCell ⟨B,5,none⟩ v5).setCell ⟨B,6,none⟩ v6).setCell ⟨B,7,none⟩ v7).setCell ⟨B,8,none⟩ v8).setCell ⟨B,9,none⟩ v9).heap[B]? =some (.cells #[v0,v1,v2,v3,v4,v5,v6,v7,v8,v9] T (0,0)):=set_heap (j:=9) h8 v9
 exact h9
theorem frp10 {P:Nat→Prop} {B:Nat} {w W:World} (h:Fr P w W) (hB:P B∨w.heap.size≤B) (v0 v1 v2 v3 v4 v5 v6 v7 v8 v9:Value):Fr P w ((((((((((W.setCell ⟨B,0,none⟩ v0).setCell ⟨B,1,none⟩ v1).setCell ⟨B,2,none⟩ v2).setCell ⟨B,3,none⟩ v3).setCell ⟨B,4,none⟩ v4).setCell ⟨B,5,none⟩ v5).setCell ⟨B,6,none⟩ v6).setCell ⟨B,7,none⟩ v7).setCell ⟨B,8,none⟩ v8).setCell ⟨B,9,none⟩ v9):=((((((((((h.setCell (p:=⟨B,0,none⟩) hB _).setCell (p:=⟨B,1,none⟩) hB _).setCell (p:=⟨B,2,none⟩) hB _).setCell (p:=⟨B,3,none⟩) hB _).setCell (p:=⟨B,4,none⟩) hB _).setCell (p:=⟨B,5,none⟩) hB _).setCell (p:=⟨B,6,none⟩) hB _).setCell (p:=⟨B,7,none⟩) hB _).setCell (p:=⟨B,8,none⟩) hB _).setCell (p:=⟨B,9,none⟩) hB _)
theorem new_box (w:World) (o:Obj):(w.alloc o).heap[w.heap.size]? =some o:=by
 show (w.heap.push o)[w.heap.size]? =some o
 simp
def pT2 (sz n:Nat) (d:Int) (u:List (Tok Val)):Rd Tm:=(rNext sz u).bind fun h r2=>
 match kindIn hdT h.x 3 3 with
 | none=>.bad 70 h.at_
 | some k=>(rMany (pT sz n (d+1)) false n 2 r2).bind fun l r3=>(rExp sz [41] r3).bind fun _ r4=>.ok (tmO k l) r4
theorem pT_eq (sz n:Nat) (d:Int) (ts:List (Tok Val)) (hd:¬ (24<d∧(tkH sz ts).k≠0)) (hok:∀ t∈ts,TkOk t):∃ u,pT sz (n+1) d ts=(if nameB (txB (tkH sz ts)) then .ok (tmV (txB (tkH sz ts))) u else if (tkH sz ts).k=6 then .ok (tmC (tkH sz ts).v) u else if (tkH sz ts).x=[40] then pT2 sz n d u else .bad 70 (tkH sz ts).at_)∧(nameB (txB (tkH sz ts))=true∨(tkH sz ts).k=6∨(tkH sz ts).x=[40]→∃ t,ts=t::u):=by
 cases ts with
 | nil=>
  refine ⟨[],rfl,fun h=> ?_⟩
  rcases h with h | h | h
  ·rw [tb_nil,nameB_nil] at h;cases h
  ·cases h
  ·cases h
 | cons t r=>
  have hk:t.k≠0:=(hok t (by simp)).2.1
  have hd':¬ 24<d:=fun h=>hd ⟨h,hk⟩
  refine ⟨r, ?_,fun _=>⟨t,rfl⟩⟩
  rw [pT,rBeg,if_neg hd',Rd.bind_ok]
  rfl
theorem pT_deep (sz n:Nat) (d:Int) (ts:List (Tok Val)) (hd:24<d∧(tkH sz ts).k≠0):pT sz (n+1) d ts=.bad 71 (tkH sz ts).at_:=by
 cases ts with
 | nil=>exact absurd rfl hd.2
 | cons t r=>rw [pT,rBeg,if_pos hd.1,Rd.bind_bad];rfl
theorem pT2_eq (sz n:Nat) (d:Int) (u:List (Tok Val)):∃ u2,pT2 sz n d u=(match kindIn hdT (tkH sz u).x 3 3 with | none=>.bad 70 (tkH sz u).at_ | some k=>(rMany (pT sz n (d+1)) false n 2 u2).bind fun l r3=>(rExp sz [41] r3).bind fun _ r4=>.ok (tmO k l) r4)∧(∀ k,kindIn hdT (tkH sz u).x 3 3=some k→∃ t,u=t::u2):=by
 cases u with
 | nil=>exact ⟨[],rfl,fun k e=>by have h:kindIn hdT (tkH sz []).x 3 3=none:=rfl;rw [h] at e;cases e⟩
 | cons t r=>exact ⟨r,rfl,fun _ _=>⟨t,rfl⟩⟩
theorem RdAt.ok {m:Nat} {w:World} {R sz:Nat} {ts:List (Tok Val)} (h:RdAt m w R sz ts):∀ t∈ts,TkOk t:=by
 obtain ⟨b,off,c,h1,h2,h3,h4,h5, -⟩:=h
 exact h5.2
theorem zeroV_fits:zeroV.Fits:=⟨by decide,by decide,by decide,by decide⟩
theorem tkH_fits {sz:Nat} {ts:List (Tok Val)} (h:∀ t∈ts,TkOk t):(tkH sz ts).v.Fits:=by
 cases ts with
 | nil=>
  have e:(tkH sz []).v=zeroV:=rfl
  rw [e]
  exact ⟨by decide,by decide,by decide,by decide⟩
 | cons t r=>exact (h t (by simp)).1
theorem term_deep (m R sz:Nat) (ts:List (Tok Val)) (d:Int) (w:World) (h:RdAt m w R sz ts) (n:Nat) (hd:24<d∧(tkH sz ts).k≠0):Calls Tryz.prog 153 #[.pointer (some ⟨R,0,none⟩),.int .i64 d] w (RdO m R sz w (TmV w) (pT sz (n+1) d ts)):=by
 have CB:Hid (∀ W:World,Below w.heap.size w W→Calls Tryz.prog 74 #[.pointer (some ⟨R,0,none⟩),.int .i64 d] W fun e w'=>e=faultE 71 (tkH sz ts).at_∧Fr (fun k=>k=R) W w'):=fun W hW=>begin_deep m R sz ts d W (h.below hW) hd.1 hd.2
 rw [pT_deep sz n d ts hd]
 generalize (tkH sz ts).at_=ta at*
 go_enter Tryz.func153,Tryz.ntmps153
 go_wp2_with fail
 refine (CB.out _ (by go_grown)).mono ?_
 rintro e w1 ⟨rfl,hF⟩
 exact ⟨rfl,rfl,((Fr.refl (fun k=>k=R) w).alloc _).trans hF (fun k e=>Or.inl e)⟩
theorem term_name (m R sz:Nat) (ts:List (Tok Val)) (d:Int) (w:World) (h:RdAt m w R sz ts) (hd:¬ (24<d∧(tkH sz ts).k≠0)) (hb:nameB (txB (tkH sz ts))=true) (t0:Tok Val) (u:List (Tok Val)) (hT:ts=t0::u):Calls Tryz.prog 153 #[.pointer (some ⟨R,0,none⟩),.int .i64 d] w (RdO m R sz w (TmV w) (.ok (tmV (txB (tkH sz ts))) u)):=by
 have CB:Hid (∀ W:World,Below w.heap.size w W→Calls Tryz.prog 74 #[.pointer (some ⟨R,0,none⟩),.int .i64 d] W (NxO m R sz ts W (.agg #[.int .i64 (tkH sz ts).k,.int .i64 (tkH sz ts).at_,.string (txB (tkH sz ts)),.int .i64 (tkH sz ts).v.k,.int .i64 (tkH sz ts).v.n,.int .i64 (tkH sz ts).v.d,.string (tkH sz ts).v.s]))):=fun W hW=>begin_any m R sz ts d W (h.below hW) hd
 have hlt:=h.lt
 have hNm:Hid (∀ W:World,Calls Tryz.prog 119 #[.string (txB (tkH sz ts))] W fun e w'=>e=.returned (.bool true)∧w'=W):=fun W=>(name_any _ W).mono fun e w' h=>⟨by rw [h.1,hb],h.2⟩
 generalize (tkH sz ts).k=tk at*
 generalize (tkH sz ts).at_=ta at*
 generalize txB (tkH sz ts)=tx at*
 generalize (tkH sz ts).v.k=vk at*
 generalize (tkH sz ts).v.n=vn at*
 generalize (tkH sz ts).v.d=vd at*
 generalize (tkH sz ts).v.s=vs at*
 go_enter Tryz.func153,Tryz.ntmps153
 go_wp2_with fail
 refine (CB.out _ (by go_grown)).mono ?_
 rintro e w1 ⟨rfl,hF,hN⟩
 have z1:w.heap.size<w1.heap.size:=by have:=hF.size;simp at this;omega
 have X1:Hid (w1.heap[w.heap.size]? =some (.cells #[.int .i64 0,.string ⟨#[]⟩,.int .i64 0,.int .i64 0,.int .i64 0,.string ⟨#[]⟩,.slice none 0 0] 41 (0,0))):=hF.heap (new_box w _) (fun e=>by omega)
 have F1:Hid (Fr (fun k=>k=R) w w1):=((Fr.refl (fun k=>k=R) w).alloc _).trans hF (fun k e=>Or.inl e)
 have N1:Hid (∀ t r,ts=t::r→RdAt m w1 R sz r):=hN
 clear hF hN CB
 go_upto_region 2 with fail
 refine wp_world ?_
 intro W2 hW2
 have X2:Hid (W2.heap[w.heap.size]? =some (.cells #[.int .i64 0,.string ⟨#[]⟩,.int .i64 0,.int .i64 0,.int .i64 0,.string ⟨#[]⟩,.slice none 0 0] 41 (0,0))):=by rw [hW2];exact ((Fr.refl (fun k=>k=R) w1).alloc _).heap X1.out (fun e=>by omega)
 have V2:Hid (W2.heap[w1.heap.size]? =some (.cells #[.int .i64 tk,.int .i64 ta,.string tx,.int .i64 vk,.int .i64 vn,.int .i64 vd,.string vs] 58 (0,0))):=by rw [hW2];exact new_box w1 _
 have F2:Hid (Fr (fun k=>k=R) w W2):=by rw [hW2];exact F1.out.alloc _
 have A2:Hid (∀ t r,ts=t::r→RdAt m W2 R sz r):=fun t r e=>by rw [hW2];exact (N1.out t r e).below ((Below.refl w1.heap.size w1).alloc (Nat.le_refl _) _)
 have zz:w1.heap.size<W2.heap.size:=by rw [hW2];simp
 clear hW2 F1 N1 X1
 generalize w1.heap.size=n1 at*
 obtain ⟨v0,v1,v2,v3,v4,v5,v6⟩:=bx7 V2.out
 obtain ⟨r0,r1,r2,r3,r4,r5,r6⟩:=bx7 X2.out
 obtain ⟨q0,q1,q2,q3,q4,q5,q6⟩:=bz7 X2.out
 go_wp2_with fail
 refine (hNm.out _).mono ?_
 rintro e w9 ⟨rfl,hw9⟩
 obtain rfl:=hw9.symm
 clear hNm
 go_wp2
 generalize hW9:World.setCell _ _ _=W9
 have X9:W9.heap[w.heap.size]? =some (.cells #[.int .i64 1,.string tx,.int .i64 0,.int .i64 0,.int .i64 0,.string ⟨#[]⟩,.slice none 0 0] 41 (0,0)):=by rw [← hW9];exact put7 X2.out
 have F9:Fr (fun k=>k=R) w W9:=by rw [← hW9];exact frp7 F2.out (Or.inr (Nat.le_refl _)) _ _ _ _ _ _ _
 have F29:Fr (fun k=>k=w.heap.size) W2 W9:=by rw [← hW9];exact frp7 (Fr.refl (fun k=>k=w.heap.size) W2) (Or.inl rfl) _ _ _ _ _ _ _
 clear hW9
 obtain ⟨x0,x1,x2,x3,x4,x5,x6⟩:=bx7 X9
 refine bodyPost_ret (by simp [results,Tryz.results153,go_sem,x0,x1,x2,x3,x4,x5,x6];try rfl) rfl ?_
 exact ⟨_,rfl,⟨_,rfl,TmsOwn.nil _ _,zeroV_fits⟩,(A2.out _ _ hT).fr F29 (fun k e=>by omega),F9⟩
theorem term_value (m R sz:Nat) (ts:List (Tok Val)) (d:Int) (w:World) (h:RdAt m w R sz ts) (hd:¬ (24<d∧(tkH sz ts).k≠0)) (hb:nameB (txB (tkH sz ts))=false) (hk:(tkH sz ts).k=6) (t0:Tok Val) (u:List (Tok Val)) (hT:ts=t0::u):Calls Tryz.prog 153 #[.pointer (some ⟨R,0,none⟩),.int .i64 d] w (RdO m R sz w (TmV w) (.ok (tmC (tkH sz ts).v) u)):=by
 have CB:Hid (∀ W:World,Below w.heap.size w W→Calls Tryz.prog 74 #[.pointer (some ⟨R,0,none⟩),.int .i64 d] W (NxO m R sz ts W (.agg #[.int .i64 (tkH sz ts).k,.int .i64 (tkH sz ts).at_,.string (txB (tkH sz ts)),.int .i64 (tkH sz ts).v.k,.int .i64 (tkH sz ts).v.n,.int .i64 (tkH sz ts).v.d,.string (tkH sz ts).v.s]))):=fun W hW=>begin_any m R sz ts d W (h.below hW) hd
 have hlt:=h.lt
 have hft:Hid ((tkH sz ts).v.Fits):=tkH_fits h.ok
 have hval:Hid (∃ v:Val,(tkH sz ts).v=v):=⟨_,rfl⟩
 have hNm:Hid (∀ W:World,Calls Tryz.prog 119 #[.string (txB (tkH sz ts))] W fun e w'=>e=.returned (.bool false)∧w'=W):=fun W=>(name_any _ W).mono fun e w' h=>⟨by rw [h.1,hb],h.2⟩
 have HC:Hid (tmC (tkH sz ts).v=.mk 2 ⟨#[]⟩ ⟨(tkH sz ts).v.k,(tkH sz ts).v.n,(tkH sz ts).v.d,(tkH sz ts).v.s⟩ []):=rfl
 rw [HC.out]
 have hft2:Hid (Val.Fits ⟨(tkH sz ts).v.k,(tkH sz ts).v.n,(tkH sz ts).v.d,(tkH sz ts).v.s⟩):=hft.out
 clear HC hft hval
 have hk6:((tkH sz ts).k:Int)=6:=by omega
 generalize (tkH sz ts).k=tk at*
 generalize (tkH sz ts).at_=ta at*
 generalize txB (tkH sz ts)=tx at*
 generalize (tkH sz ts).v.k=vk at*
 generalize (tkH sz ts).v.n=vn at*
 generalize (tkH sz ts).v.d=vd at*
 generalize (tkH sz ts).v.s=vs at*
 obtain rfl:tk=6:=by omega
 go_enter Tryz.func153,Tryz.ntmps153
 go_wp2_with fail
 refine (CB.out _ (by go_grown)).mono ?_
 rintro e w1 ⟨rfl,hF,hN⟩
 have z1:w.heap.size<w1.heap.size:=by have:=hF.size;simp at this;omega
 have X1:Hid (w1.heap[w.heap.size]? =some (.cells #[.int .i64 0,.string ⟨#[]⟩,.int .i64 0,.int .i64 0,.int .i64 0,.string ⟨#[]⟩,.slice none 0 0] 41 (0,0))):=hF.heap (new_box w _) (fun e=>by omega)
 have F1:Hid (Fr (fun k=>k=R) w w1):=((Fr.refl (fun k=>k=R) w).alloc _).trans hF (fun k e=>Or.inl e)
 have N1:Hid (∀ t r,ts=t::r→RdAt m w1 R sz r):=hN
 clear hF hN CB
 go_upto_region 2 with fail
 refine wp_world ?_
 intro W2 hW2
 have X2:Hid (W2.heap[w.heap.size]? =some (.cells #[.int .i64 0,.string ⟨#[]⟩,.int .i64 0,.int .i64 0,.int .i64 0,.string ⟨#[]⟩,.slice none 0 0] 41 (0,0))):=by rw [hW2];exact ((Fr.refl (fun k=>k=R) w1).alloc _).heap X1.out (fun e=>by omega)
 have V2:Hid (W2.heap[w1.heap.size]? =some (.cells #[.int .i64 ((6:Nat):Int),.int .i64 ta,.string tx,.int .i64 vk,.int .i64 vn,.int .i64 vd,.string vs] 58 (0,0))):=by rw [hW2];exact new_box w1 _
 have F2:Hid (Fr (fun k=>k=R) w W2):=by rw [hW2];exact F1.out.alloc _
 have A2:Hid (∀ t r,ts=t::r→RdAt m W2 R sz r):=fun t r e=>by rw [hW2];exact (N1.out t r e).below ((Below.refl w1.heap.size w1).alloc (Nat.le_refl _) _)
 have zz:w1.heap.size<W2.heap.size:=by rw [hW2];simp
 clear hW2 F1 N1 X1
 generalize w1.heap.size=n1 at*
 obtain ⟨v0,v1,v2,v3,v4,v5,v6⟩:=bx7 V2.out
 obtain ⟨r0,r1,r2,r3,r4,r5,r6⟩:=bx7 X2.out
 obtain ⟨q0,q1,q2,q3,q4,q5,q6⟩:=bz7 X2.out
 go_wp2_with fail
 refine (hNm.out _).mono ?_
 rintro e w9 ⟨rfl,hw9⟩
 obtain rfl:=hw9.symm
 clear hNm
 go_wp2
 generalize hW9:World.setCell _ _ _=W9
 have X9:W9.heap[w.heap.size]? =some (.cells #[.int .i64 2,.string ⟨#[]⟩,.int .i64 vk,.int .i64 vn,.int .i64 vd,.string vs,.slice none 0 0] 41 (0,0)):=by rw [← hW9];exact put7 X2.out
 have F9:Fr (fun k=>k=R) w W9:=by rw [← hW9];exact frp7 F2.out (Or.inr (Nat.le_refl _)) _ _ _ _ _ _ _
 have F29:Fr (fun k=>k=w.heap.size) W2 W9:=by rw [← hW9];exact frp7 (Fr.refl (fun k=>k=w.heap.size) W2) (Or.inl rfl) _ _ _ _ _ _ _
 clear hW9
 obtain ⟨x0,x1,x2,x3,x4,x5,x6⟩:=bx7 X9
 refine bodyPost_ret (by simp [results,Tryz.results153,go_sem,x0,x1,x2,x3,x4,x5,x6];try rfl) rfl ?_
 exact ⟨_,rfl,⟨_,rfl,TmsOwn.nil _ _,hft2.out⟩,(A2.out _ _ hT).fr F29 (fun k e=>by omega),F9⟩
theorem term_none (m R sz:Nat) (ts:List (Tok Val)) (d:Int) (w:World) (h:RdAt m w R sz ts) (hd:¬ (24<d∧(tkH sz ts).k≠0)) (hb:nameB (txB (tkH sz ts))=false) (hk:(tkH sz ts).k≠6) (hx:(tkH sz ts).x≠[40]):Calls Tryz.prog 153 #[.pointer (some ⟨R,0,none⟩),.int .i64 d] w (RdO m R sz w (TmV w) (.bad 70 (tkH sz ts).at_)):=by
 have CB:Hid (∀ W:World,Below w.heap.size w W→Calls Tryz.prog 74 #[.pointer (some ⟨R,0,none⟩),.int .i64 d] W (NxO m R sz ts W (.agg #[.int .i64 (tkH sz ts).k,.int .i64 (tkH sz ts).at_,.string (txB (tkH sz ts)),.int .i64 (tkH sz ts).v.k,.int .i64 (tkH sz ts).v.n,.int .i64 (tkH sz ts).v.d,.string (tkH sz ts).v.s]))):=fun W hW=>begin_any m R sz ts d W (h.below hW) hd
 have hlt:=h.lt
 have hNm:Hid (∀ W:World,Calls Tryz.prog 119 #[.string (txB (tkH sz ts))] W fun e w'=>e=.returned (.bool false)∧w'=W):=fun W=>(name_any _ W).mono fun e w' h=>⟨by rw [h.1,hb],h.2⟩
 have hx2:((txB (tkH sz ts)).toList==[40])=false:=by rw [beq_data];exact decide_eq_false hx
 have hk':¬ ((tkH sz ts).k:Int)=6:=by omega
 generalize (tkH sz ts).k=tk at*
 generalize (tkH sz ts).at_=ta at*
 generalize txB (tkH sz ts)=tx at*
 generalize (tkH sz ts).v.k=vk at*
 generalize (tkH sz ts).v.n=vn at*
 generalize (tkH sz ts).v.d=vd at*
 generalize (tkH sz ts).v.s=vs at*
 go_enter Tryz.func153,Tryz.ntmps153
 go_wp2_with fail
 refine (CB.out _ (by go_grown)).mono ?_
 rintro e w1 ⟨rfl,hF,hN⟩
 have z1:w.heap.size<w1.heap.size:=by have:=hF.size;simp at this;omega
 have X1:Hid (w1.heap[w.heap.size]? =some (.cells #[.int .i64 0,.string ⟨#[]⟩,.int .i64 0,.int .i64 0,.int .i64 0,.string ⟨#[]⟩,.slice none 0 0] 41 (0,0))):=hF.heap (new_box w _) (fun e=>by omega)
 have F1:Hid (Fr (fun k=>k=R) w w1):=((Fr.refl (fun k=>k=R) w).alloc _).trans hF (fun k e=>Or.inl e)
 have N1:Hid (∀ t r,ts=t::r→RdAt m w1 R sz r):=hN
 clear hF hN CB
 go_upto_region 2 with fail
 refine wp_world ?_
 intro W2 hW2
 have X2:Hid (W2.heap[w.heap.size]? =some (.cells #[.int .i64 0,.string ⟨#[]⟩,.int .i64 0,.int .i64 0,.int .i64 0,.string ⟨#[]⟩,.slice none 0 0] 41 (0,0))):=by rw [hW2];exact ((Fr.refl (fun k=>k=R) w1).alloc _).heap X1.out (fun e=>by omega)
 have V2:Hid (W2.heap[w1.heap.size]? =some (.cells #[.int .i64 tk,.int .i64 ta,.string tx,.int .i64 vk,.int .i64 vn,.int .i64 vd,.string vs] 58 (0,0))):=by rw [hW2];exact new_box w1 _
 have F2:Hid (Fr (fun k=>k=R) w W2):=by rw [hW2];exact F1.out.alloc _
 have A2:Hid (∀ t r,ts=t::r→RdAt m W2 R sz r):=fun t r e=>by rw [hW2];exact (N1.out t r e).below ((Below.refl w1.heap.size w1).alloc (Nat.le_refl _) _)
 have zz:w1.heap.size<W2.heap.size:=by rw [hW2];simp
 clear hW2 F1 N1 X1
 generalize w1.heap.size=n1 at*
 obtain ⟨v0,v1,v2,v3,v4,v5,v6⟩:=bx7 V2.out
 obtain ⟨r0,r1,r2,r3,r4,r5,r6⟩:=bx7 X2.out
 obtain ⟨q0,q1,q2,q3,q4,q5,q6⟩:=bz7 X2.out
 go_wp2_with fail
 refine (hNm.out _).mono ?_
 rintro e w9 ⟨rfl,hw9⟩
 obtain rfl:=hw9.symm
 clear hNm
 go_wp2_with fail
 refine (misplaced_at _ _ _ _ _ _ _ _).mono ?_
 rintro e w3 ⟨rfl,hb3⟩
 have F4:Fr (fun k=>k=R) w w3:=F2.out.trans (Fr.of_below (P:=fun _=>False) hb3) (fun _ q=>q.elim)
 clear hb3
 go_wp2
 exact ⟨rfl,rfl,F4⟩
theorem term_open (m R sz:Nat) (ts:List (Tok Val)) (d:Int) (w:World) (h:RdAt m w R sz ts) (n:Nat) (hd:¬ (24<d∧(tkH sz ts).k≠0)) (hd0:0≤d) (hd1:d≤1000) (hb:nameB (txB (tkH sz ts))=false) (hk:(tkH sz ts).k≠6) (hx:(tkH sz ts).x=[40]) (t0:Tok Val) (u:List (Tok Val)) (hT:ts=t0::u) (hn:ts.length≤n) (HT:∀ (rr:List (Tok Val)) (W:World),rr.length<n→RdAt m W R sz rr→Calls Tryz.prog 120 #[.pointer (some ⟨R,0,none⟩),.int .i64 ((2:Nat):Int),.bool false,.int .i64 (d+1)] W (RdO m R sz W (fun l v w'=>TmsOwn (fun q=>W.heap.size≤q) w' v l) (rMany (pT sz n (d+1)) false n 2 rr))):Calls Tryz.prog 153 #[.pointer (some ⟨R,0,none⟩),.int .i64 d] w (RdO m R sz w (TmV w) (pT2 sz n d u)):=by
 have CB:Hid (∀ W:World,Below w.heap.size w W→Calls Tryz.prog 74 #[.pointer (some ⟨R,0,none⟩),.int .i64 d] W (NxO m R sz ts W (.agg #[.int .i64 (tkH sz ts).k,.int .i64 (tkH sz ts).at_,.string (txB (tkH sz ts)),.int .i64 (tkH sz ts).v.k,.int .i64 (tkH sz ts).v.n,.int .i64 (tkH sz ts).v.d,.string (tkH sz ts).v.s]))):=fun W hW=>begin_any m R sz ts d W (h.below hW) hd
 have hlt:=h.lt
 have hNm:Hid (∀ W:World,Calls Tryz.prog 119 #[.string (txB (tkH sz ts))] W fun e w'=>e=.returned (.bool false)∧w'=W):=fun W=>(name_any _ W).mono fun e w' h=>⟨by rw [h.1,hb],h.2⟩
 have hx2:((txB (tkH sz ts)).toList==[40])=true:=by rw [beq_data];exact decide_eq_true hx
 have hk':¬ ((tkH sz ts).k:Int)=6:=by omega
 have hdd:IntKind.i64.wrap (d+1)=d+1:=by rw [IntKind.wrap_i64];omega
 have C2:Hid (∀ W:World,RdAt m W R sz u→Calls Tryz.prog 32 #[.pointer (some ⟨R,0,none⟩)] W (NxO m R sz u W (.agg #[.int .i64 (tkH sz u).k,.int .i64 (tkH sz u).at_,.string (txB (tkH sz u)),.int .i64 (tkH sz u).v.k,.int .i64 (tkH sz u).v.n,.int .i64 (tkH sz u).v.d,.string (tkH sz u).v.s]))):=fun W hW=>next_at m R sz u W hW
 have CT:Hid (∀ (rr:List (Tok Val)) (W:World),rr.length<n→RdAt m W R sz rr→Calls Tryz.prog 120 #[.pointer (some ⟨R,0,none⟩),.int .i64 ((2:Nat):Int),.bool false,.int .i64 (d+1)] W (RdO m R sz W (fun l v w'=>TmsOwn (fun q=>W.heap.size≤q) w' v l) (rMany (pT sz n (d+1)) false n 2 rr))):=HT
 have CX:Hid (∀ (rr:List (Tok Val)) (W:World),RdAt m W R sz rr→Calls Tryz.prog 76 #[.pointer (some ⟨R,0,none⟩),.string ⟨#[41]⟩] W (RdO m R sz W (fun _ _ _=>True) (rExp sz [41] rr))):=fun rr W hW=>expect_any m R sz rr ⟨#[41]⟩ (by decide) W hW
 obtain ⟨u2,hu2,hT2⟩:=pT2_eq sz n d u
 have hxx:Hid (∀ k,(⟨(hdT k).toArray⟩:ByteArray).toList=hdT k):=fun k=>by rw [toList_data]
 have htx:(txB (tkH sz u)).toList=(tkH sz u).x:=by rw [toList_data];rfl
 obtain ⟨RS,hRS⟩:∃ x:Rd Tm,Hid (pT2 sz n d u=x):=⟨_,rfl⟩
 rw [hRS.out]
 rw [hRS.out] at hu2
 have HU:Hid (RS=(match kindIn hdT (tkH sz u).x 3 3 with | none=>Rd.bad 70 (tkH sz u).at_ | some k=>(rMany (pT sz n (d+1)) false n 2 u2).bind fun l r3=>(rExp sz [41] r3).bind fun _ r4=>.ok (tmO k l) r4)):=hu2
 have HT2:Hid (∀ k,kindIn hdT (tkH sz u).x 3 3=some k→∃ t,u=t::u2):=hT2
 clear hRS hu2 hT2
 obtain ⟨xx,hx9⟩:∃ l:List UInt8,Hid ((tkH sz u).x=l):=⟨_,rfl⟩
 rw [hx9.out] at HU HT2 htx
 clear hx9 hx hb HT
 have hlu:u.length<n:=by rw [hT] at hn;simp at hn;omega
 generalize (tkH sz ts).k=tk at*
 generalize (tkH sz ts).at_=ta at*
 generalize txB (tkH sz ts)=tx at*
 generalize (tkH sz ts).v.k=vk at*
 generalize (tkH sz ts).v.n=vn at*
 generalize (tkH sz ts).v.d=vd at*
 generalize (tkH sz ts).v.s=vs at*
 generalize (tkH sz u).k=sk at*
 generalize (tkH sz u).at_=sa at*
 generalize txB (tkH sz u)=sx at*
 generalize (tkH sz u).v.k=uk at*
 generalize (tkH sz u).v.n=un at*
 generalize (tkH sz u).v.d=ud at*
 generalize (tkH sz u).v.s=us at*
 go_enter Tryz.func153,Tryz.ntmps153
 go_wp2_with fail
 refine (CB.out _ (by go_grown)).mono ?_
 rintro e w1 ⟨rfl,hF,hN⟩
 have z1:w.heap.size<w1.heap.size:=by have:=hF.size;simp at this;omega
 have X1:Hid (w1.heap[w.heap.size]? =some (.cells #[.int .i64 0,.string ⟨#[]⟩,.int .i64 0,.int .i64 0,.int .i64 0,.string ⟨#[]⟩,.slice none 0 0] 41 (0,0))):=hF.heap (new_box w _) (fun e=>by omega)
 have F1:Hid (Fr (fun k=>k=R) w w1):=((Fr.refl (fun k=>k=R) w).alloc _).trans hF (fun k e=>Or.inl e)
 have N1:Hid (∀ t r,ts=t::r→RdAt m w1 R sz r):=hN
 clear hF hN CB
 go_upto_region 2 with fail
 refine wp_world ?_
 intro W2 hW2
 have X2:Hid (W2.heap[w.heap.size]? =some (.cells #[.int .i64 0,.string ⟨#[]⟩,.int .i64 0,.int .i64 0,.int .i64 0,.string ⟨#[]⟩,.slice none 0 0] 41 (0,0))):=by rw [hW2];exact ((Fr.refl (fun k=>k=R) w1).alloc _).heap X1.out (fun e=>by omega)
 have V2:Hid (W2.heap[w1.heap.size]? =some (.cells #[.int .i64 tk,.int .i64 ta,.string tx,.int .i64 vk,.int .i64 vn,.int .i64 vd,.string vs] 58 (0,0))):=by rw [hW2];exact new_box w1 _
 have F2:Hid (Fr (fun k=>k=R) w W2):=by rw [hW2];exact F1.out.alloc _
 have A2:Hid (∀ t r,ts=t::r→RdAt m W2 R sz r):=fun t r e=>by rw [hW2];exact (N1.out t r e).below ((Below.refl w1.heap.size w1).alloc (Nat.le_refl _) _)
 have zz:w1.heap.size<W2.heap.size:=by rw [hW2];simp
 clear hW2 F1 N1 X1
 generalize w1.heap.size=n1 at*
 obtain ⟨v0,v1,v2,v3,v4,v5,v6⟩:=bx7 V2.out
 obtain ⟨r0,r1,r2,r3,r4,r5,r6⟩:=bx7 X2.out
 obtain ⟨q0,q1,q2,q3,q4,q5,q6⟩:=bz7 X2.out
 go_wp2_with fail
 refine (hNm.out _).mono ?_
 rintro e w9 ⟨rfl,hw9⟩
 obtain rfl:=hw9.symm
 clear hNm
 have A2':Hid (RdAt m W2 R sz u):=A2.out t0 u hT
 clear A2
 go_wp2_with fail
 refine (C2.out _ A2'.out).mono ?_
 rintro e w3 ⟨rfl,hF,hN⟩
 have z3:W2.heap.size≤w3.heap.size:=hF.size
 have X3:Hid (w3.heap[w.heap.size]? =_):=hF.heap X2.out (fun e=>by omega)
 have F3:Hid (Fr (fun k=>k=R) w w3):=F2.out.trans hF (fun k e=>Or.inl e)
 have N3:Hid (∀ t r,u=t::r→RdAt m w3 R sz r):=hN
 clear hF hN C2 F2 X2 V2 v0 v1 v2 v3 v4 v5 v6 q0 q1 q2 q3 q4 q5 q6 r0 r1 r2 r3 r4 r5 r6 A2'
 go_upto_region 9 with fail
 refine wp_world ?_
 intro W4 hW4
 have X4:Hid (W4.heap[w.heap.size]? =some (.cells #[.int .i64 0,.string ⟨#[]⟩,.int .i64 0,.int .i64 0,.int .i64 0,.string ⟨#[]⟩,.slice none 0 0] 41 (0,0))):=by rw [hW4];exact ((Fr.refl (fun k=>k=R) w3).alloc _).heap X3.out (fun e=>by omega)
 have V4:Hid (W4.heap[w3.heap.size]? =some (.cells #[.int .i64 sk,.int .i64 sa,.string sx,.int .i64 uk,.int .i64 un,.int .i64 ud,.string us] 58 (0,0))):=by rw [hW4];exact new_box w3 _
 have F4:Hid (Fr (fun k=>k=R) w W4):=by rw [hW4];exact F3.out.alloc _
 have A4:Hid (∀ t r,u=t::r→RdAt m W4 R sz r):=fun t r e=>by rw [hW4];exact (N3.out t r e).below ((Below.refl w3.heap.size w3).alloc (Nat.le_refl _) _)
 have z4:w3.heap.size<W4.heap.size:=by rw [hW4];simp
 clear hW4 F3 N3 X3
 generalize w3.heap.size=n3 at*
 go_wp2
 go_loopw [7] (fun v wr=>∃ (i:Nat),v=.int .i64 ((i:Int)+3)∧i≤3∧Hid (kindIn hdT xx 3 3=kindIn hdT xx ((i:Int)+3) (3 - i))∧Hid (Below W4.heap.size W4 wr)) (fun v _=>8 - (intOf v).toNat)
 case atStart=>exact ⟨0,by simp,by omega,rfl,Below.refl _ _⟩
 case round=>
  obtain ⟨i,rfl,hi,hK,hB⟩:=hrel
  have hBs:=hB.out.size
  have V5:Hid (wr.heap[n3]? =_):=(hB.out.block n3 z4).trans V4.out
  have X5:Hid (wr.heap[w.heap.size]? =_):=(hB.out.block _ (by omega)).trans X4.out
  obtain ⟨v0,v1,v2,v3,v4,v5,v6⟩:=bx7 V5.out
  have F5:Hid (Fr (fun k=>k=R) w wr):=F4.out.trans (Fr.of_below (P:=fun _=>False) hB.out) (fun _ q=>q.elim)
  have A5:Hid (∀ t r,u=t::r→RdAt m wr R sz r):=fun t r e=>(A4.out t r e).below hB.out
  by_cases h6:i<3
  case neg=>
   have c1:¬ (i:Int)+3≤5:=by omega
   have hG:Hid (RS=Rd.bad 70 sa):=by
    show _=_
    have e:i=3:=by omega
    rw [HU.out,hK.out,e]
    rfl
   clear hK HU A5 HT2 A4 X4 V4 F4 CT CX
   go_wp2_with fail
   refine (misplaced_at _ _ _ _ _ _ _ _).mono ?_
   rintro e w6 ⟨rfl,hb6⟩
   have F6:Fr (fun k=>k=R) w w6:=F5.out.trans (Fr.of_below (P:=fun _=>False) hb6) (fun _ q=>q.elim)
   clear hb6
   go_wp2
   refine ⟨rfl, ?_⟩
   rw [hG.out]
   exact ⟨rfl,F6⟩
  have c1:(i:Int)+3≤5:=by omega
  have c2:Hid (∀ W:World,Calls Tryz.prog 83 #[.int .i64 ((i:Int)+3)] W fun e w'=>e=.returned (.string ⟨(hdT ((i:Int)+3)).toArray⟩)∧w'=W):=fun W=>termHead_any _ W
  have e1:(⟨(hdT ((i:Int)+3)).toArray⟩:ByteArray).toList=hdT ((i:Int)+3):=hxx.out _
  have hK2:Hid (kindIn hdT xx 3 3=if hdT ((i:Int)+3)=xx then some ((i:Int)+3) else kindIn hdT xx ((i:Int)+3+1) (3 - (i+1))):=by
   show _=_
   rw [hK.out]
   have e:3 - i=(3 - (i+1))+1:=by omega
   rw [e,kindIn_succ]
  clear hK
  generalize (⟨(hdT ((i:Int)+3)).toArray⟩:ByteArray)=ww at*
  by_cases hq:hdT ((i:Int)+3)=xx
  case neg=>
   rw [if_neg hq] at hK2
   have q1:(ww.toList==sx.toList)=false:=by rw [e1,htx];simpa using hq
   have hK3:Hid (kindIn hdT xx 3 3=kindIn hdT xx (((i+1:Nat):Int)+3) (3 - (i+1))):=by
    show _=_
    rw [hK2.out]
    congr 1
   clear A5 hq e1 htx hK2 CT CX HU HT2
   go_upto_region 12 with fail
   go_region_with (go_at_call 83;refine (c2.out _).mono ?_;rintro e w3 ⟨rfl,hw3⟩;obtain rfl:=hw3.symm)
   all_goals
    go_wp2
    exact ⟨⟨i+1,by go_num,by omega,hK3,hB.out.trans (Below.mono (B:=wr.heap.size) (by go_grown) hB.out.size)⟩,by simp [intOf];omega⟩
  rw [if_pos hq] at hK2
  obtain ⟨t,ht⟩:=HT2.out _ hK2.out
  have hG:Hid (RS=(rMany (pT sz n (d+1)) false n 2 u2).bind fun l r3=>(rExp sz [41] r3).bind fun _ r4=>.ok (tmO ((i:Int)+3) l) r4):=by
   show _=_
   rw [HU.out,hK2.out]
  have A6:Hid (RdAt m wr R sz u2):=A5.out t u2 ht
  have hl2:u2.length<n:=by rw [ht] at hlu;simp at hlu;omega
  have q1:(ww.toList==sx.toList)=true:=by rw [e1,htx,hq];simp
  clear hK2 HU A5 A4 HT2 ht hq e1 htx
  cases hM:rMany (pT sz n (d+1)) false n 2 u2 with
  | bad er a=>
   rw [hM,Rd.bind_bad] at hG
   go_upto_region 12 with fail
   go_region_with (go_at_call 83;refine (c2.out _).mono ?_;rintro e w3 ⟨rfl,hw3⟩;obtain rfl:=hw3.symm)
   all_goals
    go_wp2_with fail
    refine (CT.out u2 _ hl2 (A6.out.below (by go_grown))).mono ?_
    rw [hM]
    rintro e w7 ⟨rfl,hF7⟩
    refine ⟨rfl, ?_⟩
    rw [hG.out]
    exact ⟨rfl,(F5.out.trans (Fr.of_below (P:=fun _=>False) (by go_grown)) (fun _ q=>q.elim)).trans hF7 (fun k e=>Or.inl e)⟩
  | ok l r3=>
   rw [hM,Rd.bind_ok] at hG
   go_upto_region 12 with fail
   go_region_with (go_at_call 83;refine (c2.out _).mono ?_;rintro e w3 ⟨rfl,hw3⟩;obtain rfl:=hw3.symm)
   all_goals
    go_wp2_with fail
    refine (CT.out u2 _ hl2 (A6.out.below (by go_grown))).mono ?_
    rw [hM]
    rintro e w7 ⟨v7,rfl,hO7,hA7,hF7⟩
    have F7:Hid (Fr (fun k=>k=R) w w7):=(F5.out.trans (Fr.of_below (P:=fun _=>False) (by go_grown)) (fun _ q=>q.elim)).trans hF7 (fun k e=>Or.inl e)
    have X7:Hid (w7.heap[w.heap.size]? =_):=hF7.heap (show _=_ from X5.out) (fun e=>by omega)
    have O7:Hid (TmsOwn (fun q=>wr.heap.size≤q) w7 v7 l):=hO7
    have CX7:Hid (Calls Tryz.prog 76 #[.pointer (some ⟨R,0,none⟩),.string ⟨#[41]⟩] w7 (RdO m R sz w7 (fun _ _ _=>True) (rExp sz [41] r3))):=CX.out r3 w7 hA7
    have z7:wr.heap.size≤w7.heap.size:=hF7.size
    obtain ⟨p7,c7,rfl, -⟩:=hO7.at.form
    clear hF7 hA7 hO7 CT CX
    cases hX:rExp sz [41] r3 with
    | bad er a=>
     rw [hX,Rd.bind_bad] at hG
     rw [hX] at CX7
     go_wp2_with fail
     refine CX7.out.mono ?_
     rintro e w8 ⟨rfl,hF8⟩
     refine ⟨rfl, ?_⟩
     rw [hG.out]
     exact ⟨rfl,F7.out.trans hF8 (fun k e=>Or.inl e)⟩
    | ok uu r4=>
     rw [hX,Rd.bind_ok] at hG
     rw [hX] at CX7
     go_wp2_with fail
     refine CX7.out.mono ?_
     rintro e w8 ⟨v8,rfl, -,hA8,hF8⟩
     have F8:Hid (Fr (fun k=>k=R) w w8):=F7.out.trans hF8 (fun k e=>Or.inl e)
     have X8:Hid (w8.heap[w.heap.size]? =_):=hF8.heap X7.out (fun e=>by omega)
     have O8:Hid (TmsOwn (fun q=>wr.heap.size≤q) w8 (.slice p7 l.length c7) l):=O7.out.keep (fun q hq hlt8=>hF8.block q hlt8 (fun e=>by omega))
     have A8:Hid (RdAt m w8 R sz r4):=hA8
     clear hF8 hA8 CX7 F7 X7 O7 X5 F5 X4 F4 V4
     obtain ⟨r0,r1,r2,r3',r4',r5,r6⟩:=bx7 X8.out
     obtain ⟨q0,q1',q2,q3,q4,q5,q6⟩:=bz7 X8.out
     generalize hll:l.length=ll at*
     go_wp2
     generalize hW9:World.setCell _ _ _=W9
     have X9:W9.heap[w.heap.size]? =some (.cells #[.int .i64 ((i:Int)+3),.string ⟨#[]⟩,.int .i64 0,.int .i64 0,.int .i64 0,.string ⟨#[]⟩,.slice p7 ll c7] 41 (0,0)):=by rw [← hW9];exact put7 X8.out
     have F9:Fr (fun k=>k=R) w W9:=by rw [← hW9];exact frp7 F8.out (Or.inr (Nat.le_refl _)) _ _ _ _ _ _ _
     have F89:Fr (fun k=>k=w.heap.size) w8 W9:=by rw [← hW9];exact frp7 (Fr.refl (fun k=>k=w.heap.size) w8) (Or.inl rfl) _ _ _ _ _ _ _
     clear hW9
     obtain ⟨x0,x1,x2,x3,x4,x5,x6⟩:=bx7 X9
     refine bodyPost_ret (by simp [results,Tryz.results153,go_sem,x0,x1,x2,x3,x4,x5,x6];try rfl) rfl ?_
     rw [hG.out]
     exact ⟨_,rfl,⟨_,rfl,(O8.out.keep (fun q hq hlt8=>F89.block q hlt8 (fun e=>by omega))).mono (fun q hq _=>by omega),zeroV_fits⟩,A8.out.fr F89 (fun k e=>by omega),F9⟩
theorem rterm_any (m R sz:Nat):∀ (n:Nat) (d:Int) (ts:List (Tok Val)) (w:World),ts.length<n→0≤d→d≤25→RdAt m w R sz ts→Calls Tryz.prog 153 #[.pointer (some ⟨R,0,none⟩),.int .i64 d] w (RdO m R sz w (TmV w) (pT sz n d ts))
 | 0,d,ts,w,hn,_,_,_=>absurd hn (Nat.not_lt_zero _)
 | n+1,d,ts,w,hn,h0,h1,h=>by
  by_cases hd:24<d∧(tkH sz ts).k≠0
  ·exact term_deep m R sz ts d w h n hd
  obtain ⟨u,hu,hT⟩:=pT_eq sz n d ts hd h.ok
  rw [hu]
  cases hb:nameB (txB (tkH sz ts)) with
  | true=>
   obtain ⟨t0,ht⟩:=hT (Or.inl hb)
   rw [if_pos rfl]
   exact term_name m R sz ts d w h hd hb t0 u ht
  | false=>
   rw [if_neg (by simp)]
   by_cases hk:(tkH sz ts).k=6
   ·obtain ⟨t0,ht⟩:=hT (Or.inr (Or.inl hk))
    rw [if_pos hk]
    exact term_value m R sz ts d w h hd hb hk t0 u ht
   ·rw [if_neg hk]
    by_cases hx:(tkH sz ts).x=[40]
    ·obtain ⟨t0,ht⟩:=hT (Or.inr (Or.inr hx))
     rw [if_pos hx]
     have hk0:(tkH sz ts).k≠0:=by rw [ht];exact (h.ok t0 (by rw [ht];simp)).2.1
     have hd2:d≤24:=by
      by_cases h24:24<d
      ·exact absurd ⟨h24,hk0⟩ hd
      ·omega
     exact term_open m R sz ts d w h n hd h0 (by omega) hb hk hx t0 u ht (by omega) (fun rr W hr hW=>terms_step m R sz rr.length (d+1) (pT sz n (d+1)) (shr_T sz n (d+1)) (fun ts' W' hl hW'=>rterm_any m R sz n (d+1) ts' W' (by omega) (by omega) (by omega) hW') false n 2 rr W (Nat.le_refl _) hr hW)
    ·rw [if_neg hx]
     exact term_none m R sz ts d w h hd hb hk hx
theorem rterms_any (m R sz n k:Nat) (d:Int) (more:Bool) (ts:List (Tok Val)) (w:World) (hn:ts.length<n) (h0:0≤d) (h1:d≤25) (h:RdAt m w R sz ts):Calls Tryz.prog 120 #[.pointer (some ⟨R,0,none⟩),.int .i64 k,.bool more,.int .i64 d] w (RdO m R sz w (fun l v w'=>TmsOwn (fun q=>w.heap.size≤q) w' v l) (rMany (pT sz n d) more n k ts)):=terms_step m R sz ts.length d (pT sz n d) (shr_T sz n d) (fun ts' W' hl hW'=>rterm_any m R sz n d ts' W' (by omega) h0 h1 hW') more n k ts w (Nat.le_refl _) hn h
theorem numB_pint {a:List UInt8} (h:(numB a).2=true):pint a=((numB a).1.n,true)∧a=Lib.itoa (numB a).1.n∧0≤(numB a).1.n∧(numB a).1.n≤1099511627776:=by
 unfold numB at h ⊢
 by_cases hc:(prs a).2=0∧(prs a).1.k=1∧0≤(prs a).1.n∧(prs a).1.n≤1099511627776
 ·rw [if_pos hc] at h ⊢
  obtain ⟨c1,c2,c3,c4⟩:=hc
  have hp:(gss a).2=true∧prs a=((gss a).1,0)∧vtext (gss a).1.k (gss a).1.n (gss a).1.d (gss a).1.s=a:=by
   unfold prs at c1 ⊢
   by_cases h1:(gss a).2=true∧pureB (gss a).1.k (gss a).1.n (gss a).1.d (gss a).1.s=true∧vtext (gss a).1.k (gss a).1.n (gss a).1.d (gss a).1.s=a
   ·rw [if_pos h1] at c1 ⊢
    by_cases h2:chk (gss a).1.k (gss a).1.n (gss a).1.d (gss a).1.s=0
    ·rw [if_pos h2];exact ⟨h1.1,rfl,h1.2.2⟩
    ·rw [if_neg h2] at c1;exact absurd c1 h2
   ·rw [if_neg h1] at c1;cases c1
  obtain ⟨g1,g2,g3⟩:=hp
  rw [g2] at c2 c3 c4 ⊢
  dsimp only at c2 c3 c4 ⊢
  rw [c2] at g3
  have g4:Lib.itoa (gss a).1.n=a:=g3
  refine ⟨?_,g4.symm,c3,c4⟩
  clear g2 g3 g4 h c3 c4 c1
  unfold gss at c2 g1 ⊢
  split at c2
  ·cases c2
  ·rename_i n1
   rw [if_neg n1] at g1 ⊢
   split at c2
   ·rename_i n2
    rw [if_pos n2] at g1 ⊢
    exact Prod.ext rfl g1
   ·rename_i n2
    rw [if_neg n2] at g1 ⊢
    split at c2
    ·rename_i n3
     rw [if_pos n3] at g1
     cases g1
    ·cases c2
 ·rw [if_neg hc] at h;cases h
theorem decD_ne (u:Nat):Lib.decDigits u≠[]:=by
 unfold Lib.decDigits
 split
 ·simp
 ·simp
theorem itoa_dig {n:Int} (h:0≤n):Lib.itoa n≠[]∧∀ c∈Lib.itoa n,48≤c.toNat∧c.toNat≤57:=by
 have hi:Lib.itoa n=Lib.decDigits n.toNat:=by unfold Lib.itoa;rw [if_neg (by omega)]
 rw [hi]
 exact ⟨decD_ne _,fun c hc=>dec_digit _ c hc⟩
theorem not_in {c:UInt8} (h:c.toNat≠91∧c.toNat≠93):([91,93]:List UInt8).contains c=false:=by
 have h1:c≠91:=fun e=>h.1 (by rw [e];rfl)
 have h2:c≠93:=fun e=>h.2 (by rw [e];rfl)
 simp [h1,h2]
theorem trim_in {l:List UInt8} {a z:UInt8} {s t:List UInt8} (h1:l=a::s) (h2:l=t++[z]) (ha:a.toNat≠91∧a.toNat≠93) (hz:z.toNat≠91∧z.toNat≠93):Lib.trimS (91::(l++[93])) [91,93]=l:=by
 have e1:Lib.trimRightS (91::(l++[93])) [91,93]=91::l:=by
  unfold Lib.trimRightS
  rw [h2]
  have:(91::(t++[z]++[93])).reverse=93::(z::(t.reverse++[91])):=by simp
  rw [this,List.dropWhile_cons_of_pos (by decide),List.dropWhile_cons_of_neg (by rw [not_in hz];decide)]
  simp
 unfold Lib.trimS
 rw [e1]
 unfold Lib.trimLeftS
 rw [h1,List.dropWhile_cons_of_pos (by decide),List.dropWhile_cons_of_neg (by rw [not_in ha];decide)]
theorem cutC_app:∀ (l:List UInt8),(cutC l).2.2=true→l=(cutC l).1++44::(cutC l).2.1
 | [],h=>by cases h
 | c::r,h=>by
  unfold cutC at h ⊢
  by_cases hc:c.toNat=44
  ·rw [if_pos hc]
   have:c=44:=UInt8.toNat_inj.1 hc
   rw [this]
   rfl
  ·rw [if_neg hc] at h ⊢
   have:=cutC_app r h
   rw [List.cons_append,← this]
theorem trim_iv {A B:List UInt8} (hA:A≠[]∧∀ c∈A,c.toNat≠91∧c.toNat≠93) (hB:B≠[]∧∀ c∈B,c.toNat≠91∧c.toNat≠93):Lib.trimS (91::((A++44::B)++[93])) [91,93]=A++44::B:=by
 obtain ⟨hA,hA2⟩:=hA
 obtain ⟨hB,hB2⟩:=hB
 cases A with
 | nil=>exact absurd rfl hA
 | cons a s=>
  have hz:=List.dropLast_concat_getLast hB
  refine trim_in (a:=a) (s:=s++44::B) (z:=B.getLast hB) (t:=(a::s)++44::B.dropLast) rfl ?_ (hA2 a (by simp)) (hB2 _ (List.getLast_mem _))
  show (a::s)++44::B=_
  conv=>lhs;rw [← hz]
  simp
theorem iv_parts {l:List UInt8} (h:ivB l=true):Lib.trimS (91::(l++[93])) [91,93]=l∧pint (cutC l).1=((numB (cutC l).1).1.n,true)∧((cutC l).2.1≠[42]→pint (cutC l).2.1=((numB (cutC l).2.1).1.n,true)):=by
 unfold ivB at h
 simp only [Bool.and_eq_true,Bool.or_eq_true,decide_eq_true_eq] at h
 obtain ⟨⟨h1,h2⟩,h3⟩:=h
 obtain ⟨p1,p2,p3, -⟩:=numB_pint h2
 have hl:=cutC_app l h1
 obtain ⟨d1,d2⟩:=itoa_dig p3
 rw [← p2] at d1 d2
 refine ⟨?_,p1,fun hne=> ?_⟩
 ·have hb:(cutC l).2.1≠[]∧∀ c∈(cutC l).2.1,c.toNat≠91∧c.toNat≠93:=by
   rcases h3 with h3 | ⟨h3, -⟩
   ·rw [h3];exact ⟨by simp,fun c hc=>by simp at hc;rw [hc];decide⟩
   ·obtain ⟨-,q2,q3, -⟩:=numB_pint h3
    obtain ⟨e1,e2⟩:=itoa_dig q3
    rw [← q2] at e1 e2
    exact ⟨e1,fun c hc=>by have:=e2 c hc;omega⟩
  have ht:=trim_iv ⟨d1,fun c hc=>by have:=d2 c hc;omega⟩ hb
  rw [← hl] at ht
  exact ht
 ·rcases h3 with h3 | ⟨h3, -⟩
  ·exact absurd h3 hne
  ·exact (numB_pint h3).1
theorem trim_any (s:ByteArray) (w:World) (hs:s.size≤16384):Calls Tryz.prog 186 #[.string s,.string ⟨#[91,93]⟩] w fun e w'=>e=.returned (.string ⟨(Lib.trimS s.data.toList [91,93]).toArray⟩)∧Below w.heap.size w w':=Any.strings_Trim_laid Tryz.lays160 (by kernel_rfl) s ⟨#[91,93]⟩ w (by omega) (by decide) (ascii_of_all (by decide))
theorem rIv_eq (sz:Nat) (ts:List (Tok Val)):∃ u,rIv sz ts=(if (tkH sz ts).k=5 then .ok (ivOf (tkH sz ts).x) u else .bad 70 (tkH sz ts).at_)∧((tkH sz ts).k=5→∃ t,ts=t::u):=by
 cases ts with
 | nil=>exact ⟨[],rfl,fun e=>by cases e⟩
 | cons t r=>exact ⟨r,rfl,fun _=>⟨t,rfl⟩⟩
theorem number_at (s:ByteArray) (n:Int) (w:World) (hs:s.size≤16384) (h:pint s.data.toList=(n,true)):Calls Tryz.prog 187 #[.string s] w fun e w'=>e=.returned (.int .i64 n)∧Below w.heap.size w w':=by
 have c:Hid (Calls Tryz.prog 184 #[.string s,.int .i64 10,.int .i64 64] w fun e w'=>e=.returned (.tuple #[.int .i64 n,.nilIface])∧Below w.heap.size w w'):=by
  have q:=pi_yes s w (by omega) (by rw [h])
  rw [h] at q
  exact q
 go_enter Tryz.func187,Tryz.ntmps187
 go_wp2_with fail
 refine c.out.mono ?_
 rintro e w1 ⟨rfl,hb⟩
 go_wp2
 go_ret
 exact ⟨rfl,hb⟩
theorem rival_any (m R sz:Nat) (ts:List (Tok Val)) (w:World) (h:RdAt m w R sz ts):
  Calls Tryz.prog 157 #[.pointer (some ⟨R,0,none⟩)] w (RdO m R sz w (fun iv v _=>v=.agg #[.int .i64 iv.1,.int .i64 iv.2.1,.bool iv.2.2]) (rIv sz ts)):=by
 have CN:Hid (∀ W:World,Below w.heap.size w W→Calls Tryz.prog 32 #[.pointer (some ⟨R,0,none⟩)] W (NxO m R sz ts W (.agg #[.int .i64 (tkH sz ts).k,.int .i64 (tkH sz ts).at_,.string (txB (tkH sz ts)),.int .i64 (tkH sz ts).v.k,.int .i64 (tkH sz ts).v.n,.int .i64 (tkH sz ts).v.d,.string (tkH sz ts).v.s]))):=fun W hW=>next_at m R sz ts W (h.below hW)
 have hlt:=h.lt
 obtain ⟨u,hu,hT⟩:=rIv_eq sz ts
 rw [hu]
 clear hu
 by_cases hk:(tkH sz ts).k=5
 case neg=>
  rw [if_neg hk]
  have hk':¬ ((tkH sz ts).k:Int)=5:=by omega
  generalize (tkH sz ts).k=tk at*
  generalize (tkH sz ts).at_=ta at*
  generalize txB (tkH sz ts)=tx at*
  generalize (tkH sz ts).v.k=vk at*
  generalize (tkH sz ts).v.n=vn at*
  generalize (tkH sz ts).v.d=vd at*
  generalize (tkH sz ts).v.s=vs at*
  go_enter Tryz.func157,Tryz.ntmps157
  go_wp2_with fail
  refine (CN.out _ (by go_grown)).mono ?_
  rintro e w1 ⟨rfl,hF,hN⟩
  have z1:w.heap.size<w1.heap.size:=by have:=hF.size;simp at this;omega
  have X1:Hid (w1.heap[w.heap.size]? =some (.cells #[.int .i64 0,.int .i64 0,.bool false] 25 (0,0))):=hF.heap (new_box w _) (fun e=>by omega)
  have F1:Hid (Fr (fun k=>k=R) w w1):=((Fr.refl (fun k=>k=R) w).alloc _).trans hF (fun k e=>Or.inl e)
  have N1:Hid (∀ t r,ts=t::r→RdAt m w1 R sz r):=hN
  clear hF hN CN
  go_upto_region 2 with fail
  refine wp_world ?_
  intro W2 hW2
  have X2:Hid (W2.heap[w.heap.size]? =some (.cells #[.int .i64 0,.int .i64 0,.bool false] 25 (0,0))):=by rw [hW2];exact ((Fr.refl (fun k=>k=R) w1).alloc _).heap X1.out (fun e=>by omega)
  have V2:Hid (W2.heap[w1.heap.size]? =some (.cells #[.int .i64 tk,.int .i64 ta,.string tx,.int .i64 vk,.int .i64 vn,.int .i64 vd,.string vs] 58 (0,0))):=by rw [hW2];exact new_box w1 _
  have F2:Hid (Fr (fun k=>k=R) w W2):=by rw [hW2];exact F1.out.alloc _
  have A2:Hid (∀ t r,ts=t::r→RdAt m W2 R sz r):=fun t r e=>by rw [hW2];exact (N1.out t r e).below ((Below.refl w1.heap.size w1).alloc (Nat.le_refl _) _)
  have zz:w1.heap.size<W2.heap.size:=by rw [hW2];simp
  clear hW2 F1 N1 X1
  generalize w1.heap.size=n1 at*
  obtain ⟨v0,v1,v2,v3,v4,v5,v6⟩:=bx7 V2.out
  go_wp2_with fail
  refine (misplaced_at _ _ _ _ _ _ _ _).mono ?_
  rintro e w3 ⟨rfl,hb3⟩
  have F4:Fr (fun k=>k=R) w w3:=F2.out.trans (Fr.of_below (P:=fun _=>False) hb3) (fun _ q=>q.elim)
  clear hb3
  go_wp2
  exact ⟨rfl,rfl,F4⟩
 case pos=>
  rw [if_pos hk]
  obtain ⟨t0,ht⟩:=hT hk
  have hok:=h.ok t0 (by rw [ht];simp)
  have htk:tkH sz ts=t0:=by rw [ht];rfl
  obtain ⟨l,hl,hiv⟩:=hok.2.2.1 (by rw [← htk];exact hk)
  have hlen:=hok.2.2.2
  obtain ⟨g1,g2,g3⟩:=iv_parts hiv
  have hx9:(tkH sz ts).x=91::(l++[93]):=by rw [htk];exact hl
  have hll:l.length≤16384:=by rw [hl] at hlen;simp at hlen;omega
  have hcl:=cutC_len l
  have hts:(txB (tkH sz ts)).size≤16384:=by
   show (tkH sz ts).x.toArray.size≤_
   rw [htk];simpa using hlen
  have cT:Hid (∀ W:World,Calls Tryz.prog 186 #[.string (txB (tkH sz ts)),.string ⟨#[91,93]⟩] W fun e w'=>e=.returned (.string ⟨l.toArray⟩)∧Below W.heap.size W w'):=fun W=>by
   have q:=trim_any (txB (tkH sz ts)) W hts
   have e:(txB (tkH sz ts)).data.toList=91::(l++[93]):=hx9
   rw [e,g1] at q
   exact q
  have cC:Hid (∀ W:World,Calls Tryz.prog 147 #[.string ⟨l.toArray⟩,.string ⟨#[44]⟩] W fun e w'=>e=.returned (.tuple #[.string ⟨(cutC l).1.toArray⟩,.string ⟨(cutC l).2.1.toArray⟩,.bool (cutC l).2.2])∧Below W.heap.size W w'):=fun W=>(comma_any ⟨l.toArray⟩ W (by show l.toArray.size≤_;simp;omega)).mono fun e w' ⟨h1,k,h2⟩=>⟨h1,by rw [h2];exact ⟨rfl,rfl,rfl,Nat.le_refl _,fun _ _=>rfl⟩⟩
  have cA:Hid (∀ W:World,Calls Tryz.prog 187 #[.string ⟨(cutC l).1.toArray⟩] W fun e w'=>e=.returned (.int .i64 (numB (cutC l).1).1.n)∧Below W.heap.size W w'):=fun W=>number_at _ _ W (by show (cutC l).1.toArray.size≤_;simp;omega) g2
  have hIV:ivOf (tkH sz ts).x=if (cutC l).2.1=[42] then ((numB (cutC l).1).1.n,0,true) else ((numB (cutC l).1).1.n,(numB (cutC l).2.1).1.n,false):=by
   unfold ivOf
   have e:((tkH sz ts).x.drop 1).take ((tkH sz ts).x.length - 2)=l:=by rw [hx9];simp
   rw [e]
  have hbq:((⟨(cutC l).2.1.toArray⟩:ByteArray).toList==[42])=decide ((cutC l).2.1=[42]):=by rw [beq_data]
  rw [hIV]
  obtain ⟨RS,hRS⟩:∃ x:Rd (Int×Int×Bool),Hid (Rd.ok (if (cutC l).2.1=[42] then ((numB (cutC l).1).1.n,(0:Int),true) else ((numB (cutC l).1).1.n,(numB (cutC l).2.1).1.n,false)) u=x):=⟨_,rfl⟩
  rw [hRS.out]
  by_cases h42:(cutC l).2.1=[42]
  case pos=>
   rw [decide_eq_true h42] at hbq
   rw [if_pos h42] at hRS
   have hG:Hid (RS=Rd.ok ((numB (cutC l).1).1.n,(0:Int),true) u):=hRS.out.symm
   clear hRS hIV g1 g2 g3 hx9 htk hl hlen hok hcl hts h42
   generalize (⟨(cutC l).1.toArray⟩:ByteArray)=sA at*
   generalize (⟨(cutC l).2.1.toArray⟩:ByteArray)=sB at*
   generalize (⟨l.toArray⟩:ByteArray)=sL at*
   generalize (numB (cutC l).1).1.n=nA at*
   generalize (cutC l).2.2=bb at*
   generalize (tkH sz ts).k=tk at*
   generalize (tkH sz ts).at_=ta at*
   generalize txB (tkH sz ts)=tx at*
   generalize (tkH sz ts).v.k=vk at*
   generalize (tkH sz ts).v.n=vn at*
   generalize (tkH sz ts).v.d=vd at*
   generalize (tkH sz ts).v.s=vs at*
   obtain rfl:tk=5:=hk
   go_enter Tryz.func157,Tryz.ntmps157
   go_wp2_with fail
   refine (CN.out _ (by go_grown)).mono ?_
   rintro e w1 ⟨rfl,hF,hN⟩
   have z1:w.heap.size<w1.heap.size:=by have:=hF.size;simp at this;omega
   have X1:Hid (w1.heap[w.heap.size]? =some (.cells #[.int .i64 0,.int .i64 0,.bool false] 25 (0,0))):=hF.heap (new_box w _) (fun e=>by omega)
   have F1:Hid (Fr (fun k=>k=R) w w1):=((Fr.refl (fun k=>k=R) w).alloc _).trans hF (fun k e=>Or.inl e)
   have N1:Hid (∀ t r,ts=t::r→RdAt m w1 R sz r):=hN
   clear hF hN CN
   go_upto_region 2 with fail
   refine wp_world ?_
   intro W2 hW2
   have X2:Hid (W2.heap[w.heap.size]? =some (.cells #[.int .i64 0,.int .i64 0,.bool false] 25 (0,0))):=by rw [hW2];exact ((Fr.refl (fun k=>k=R) w1).alloc _).heap X1.out (fun e=>by omega)
   have V2:Hid (W2.heap[w1.heap.size]? =some (.cells #[.int .i64 ((5:Nat):Int),.int .i64 ta,.string tx,.int .i64 vk,.int .i64 vn,.int .i64 vd,.string vs] 58 (0,0))):=by rw [hW2];exact new_box w1 _
   have F2:Hid (Fr (fun k=>k=R) w W2):=by rw [hW2];exact F1.out.alloc _
   have A2:Hid (∀ t r,ts=t::r→RdAt m W2 R sz r):=fun t r e=>by rw [hW2];exact (N1.out t r e).below ((Below.refl w1.heap.size w1).alloc (Nat.le_refl _) _)
   have zz:w1.heap.size<W2.heap.size:=by rw [hW2];simp
   clear hW2 F1 N1 X1
   generalize w1.heap.size=n1 at*
   obtain ⟨v0,v1,v2,v3,v4,v5,v6⟩:=bx7 V2.out
   have A2':Hid (RdAt m W2 R sz u):=A2.out t0 u ht
   clear A2
   go_wp2_with fail
   refine (cT.out _).mono ?_
   rintro e w3 ⟨rfl,hb3⟩
   have X3:Hid (_):=(hb3.block _ (by have:=lt_heap X2.out;exact this)).trans X2.out
   have F3:Hid (Fr (fun k=>k=R) w w3):=F2.out.trans (Fr.of_below (P:=fun _=>False) hb3) (fun _ q=>q.elim)
   have A3:Hid (RdAt m w3 R sz u):=A2'.out.below hb3
   clear hb3
   go_wp2_with fail
   refine (cC.out _).mono ?_
   rintro e w4 ⟨rfl,hb4⟩
   have X4:Hid (_):=(hb4.block _ (by have:=lt_heap X3.out;exact this)).trans X3.out
   have F4:Hid (Fr (fun k=>k=R) w w4):=F3.out.trans (Fr.of_below (P:=fun _=>False) hb4) (fun _ q=>q.elim)
   have A4:Hid (RdAt m w4 R sz u):=A3.out.below hb4
   clear hb4
   go_wp2_with fail
   refine (cA.out _).mono ?_
   rintro e w5 ⟨rfl,hb5⟩
   have X5:Hid (_):=(hb5.block _ (by have:=lt_heap X4.out;exact this)).trans X4.out
   have F5:Hid (Fr (fun k=>k=R) w w5):=F4.out.trans (Fr.of_below (P:=fun _=>False) hb5) (fun _ q=>q.elim)
   have A5:Hid (RdAt m w5 R sz u):=A4.out.below hb5
   clear hb5
   obtain ⟨r0,r1,r2⟩:=bx3 X5.out
   obtain ⟨q0,q1,q2⟩:=bz3 X5.out
   go_wp2
   generalize hW9:World.setCell _ _ _=W9
   have X9:W9.heap[w.heap.size]? =some (.cells #[.int .i64 nA,.int .i64 0,.bool true] 25 (0,0)):=by rw [← hW9];exact put3 X5.out
   have F9:Fr (fun k=>k=R) w W9:=by rw [← hW9];exact frp3 F5.out (Or.inr (Nat.le_refl _)) _ _ _
   have F59:Fr (fun k=>k=w.heap.size) w5 W9:=by rw [← hW9];exact frp3 (Fr.refl (fun k=>k=w.heap.size) w5) (Or.inl rfl) _ _ _
   clear hW9
   obtain ⟨x0,x1,x2⟩:=bx3 X9
   refine bodyPost_ret (by simp [results,Tryz.results157,go_sem,x0,x1,x2];try rfl) rfl ?_
   rw [hG.out]
   exact ⟨_,rfl,rfl,A5.out.fr F59 (fun k e=>by omega),F9⟩
  case neg=>
   have cB:Hid (∀ W:World,Calls Tryz.prog 187 #[.string ⟨(cutC l).2.1.toArray⟩] W fun e w'=>e=.returned (.int .i64 (numB (cutC l).2.1).1.n)∧Below W.heap.size W w'):=fun W=>number_at _ _ W (by show (cutC l).2.1.toArray.size≤_;simp;omega) (g3 h42)
   rw [decide_eq_false h42] at hbq
   rw [if_neg h42] at hRS
   have hG:Hid (RS=Rd.ok ((numB (cutC l).1).1.n,(numB (cutC l).2.1).1.n,false) u):=hRS.out.symm
   clear hRS hIV g1 g2 g3 hx9 htk hl hlen hok hcl hts h42
   generalize (⟨(cutC l).1.toArray⟩:ByteArray)=sA at*
   generalize (⟨(cutC l).2.1.toArray⟩:ByteArray)=sB at*
   generalize (⟨l.toArray⟩:ByteArray)=sL at*
   generalize (numB (cutC l).1).1.n=nA at*
   generalize (numB (cutC l).2.1).1.n=nB at*
   generalize (cutC l).2.2=bb at*
   generalize (tkH sz ts).k=tk at*
   generalize (tkH sz ts).at_=ta at*
   generalize txB (tkH sz ts)=tx at*
   generalize (tkH sz ts).v.k=vk at*
   generalize (tkH sz ts).v.n=vn at*
   generalize (tkH sz ts).v.d=vd at*
   generalize (tkH sz ts).v.s=vs at*
   obtain rfl:tk=5:=hk
   go_enter Tryz.func157,Tryz.ntmps157
   go_wp2_with fail
   refine (CN.out _ (by go_grown)).mono ?_
   rintro e w1 ⟨rfl,hF,hN⟩
   have z1:w.heap.size<w1.heap.size:=by have:=hF.size;simp at this;omega
   have X1:Hid (w1.heap[w.heap.size]? =some (.cells #[.int .i64 0,.int .i64 0,.bool false] 25 (0,0))):=hF.heap (new_box w _) (fun e=>by omega)
   have F1:Hid (Fr (fun k=>k=R) w w1):=((Fr.refl (fun k=>k=R) w).alloc _).trans hF (fun k e=>Or.inl e)
   have N1:Hid (∀ t r,ts=t::r→RdAt m w1 R sz r):=hN
   clear hF hN CN
   go_upto_region 2 with fail
   refine wp_world ?_
   intro W2 hW2
   have X2:Hid (W2.heap[w.heap.size]? =some (.cells #[.int .i64 0,.int .i64 0,.bool false] 25 (0,0))):=by rw [hW2];exact ((Fr.refl (fun k=>k=R) w1).alloc _).heap X1.out (fun e=>by omega)
   have V2:Hid (W2.heap[w1.heap.size]? =some (.cells #[.int .i64 ((5:Nat):Int),.int .i64 ta,.string tx,.int .i64 vk,.int .i64 vn,.int .i64 vd,.string vs] 58 (0,0))):=by rw [hW2];exact new_box w1 _
   have F2:Hid (Fr (fun k=>k=R) w W2):=by rw [hW2];exact F1.out.alloc _
   have A2:Hid (∀ t r,ts=t::r→RdAt m W2 R sz r):=fun t r e=>by rw [hW2];exact (N1.out t r e).below ((Below.refl w1.heap.size w1).alloc (Nat.le_refl _) _)
   have zz:w1.heap.size<W2.heap.size:=by rw [hW2];simp
   clear hW2 F1 N1 X1
   generalize w1.heap.size=n1 at*
   obtain ⟨v0,v1,v2,v3,v4,v5,v6⟩:=bx7 V2.out
   have A2':Hid (RdAt m W2 R sz u):=A2.out t0 u ht
   clear A2
   go_wp2_with fail
   refine (cT.out _).mono ?_
   rintro e w3 ⟨rfl,hb3⟩
   have X3:Hid (_):=(hb3.block _ (by have:=lt_heap X2.out;exact this)).trans X2.out
   have F3:Hid (Fr (fun k=>k=R) w w3):=F2.out.trans (Fr.of_below (P:=fun _=>False) hb3) (fun _ q=>q.elim)
   have A3:Hid (RdAt m w3 R sz u):=A2'.out.below hb3
   clear hb3
   go_wp2_with fail
   refine (cC.out _).mono ?_
   rintro e w4 ⟨rfl,hb4⟩
   have X4:Hid (_):=(hb4.block _ (by have:=lt_heap X3.out;exact this)).trans X3.out
   have F4:Hid (Fr (fun k=>k=R) w w4):=F3.out.trans (Fr.of_below (P:=fun _=>False) hb4) (fun _ q=>q.elim)
   have A4:Hid (RdAt m w4 R sz u):=A3.out.below hb4
   clear hb4
   go_wp2_with fail
   refine (cA.out _).mono ?_
   rintro e w5 ⟨rfl,hb5⟩
   have X5:Hid (_):=(hb5.block _ (by have:=lt_heap X4.out;exact this)).trans X4.out
   have F5:Hid (Fr (fun k=>k=R) w w5):=F4.out.trans (Fr.of_below (P:=fun _=>False) hb5) (fun _ q=>q.elim)
   have A5:Hid (RdAt m w5 R sz u):=A4.out.below hb5
   clear hb5
   go_wp2_with fail
   refine (cB.out _).mono ?_
   rintro e w6 ⟨rfl,hb6⟩
   have X6:Hid (_):=(hb6.block _ (by have:=lt_heap X5.out;exact this)).trans X5.out
   have F6:Hid (Fr (fun k=>k=R) w w6):=F5.out.trans (Fr.of_below (P:=fun _=>False) hb6) (fun _ q=>q.elim)
   have A6:Hid (RdAt m w6 R sz u):=A5.out.below hb6
   clear hb6
   obtain ⟨r0,r1,r2⟩:=bx3 X6.out
   obtain ⟨q0,q1,q2⟩:=bz3 X6.out
   go_wp2
   generalize hW9:World.setCell _ _ _=W9
   have X9:W9.heap[w.heap.size]? =some (.cells #[.int .i64 nA,.int .i64 nB,.bool false] 25 (0,0)):=by rw [← hW9];exact put3 X6.out
   have F9:Fr (fun k=>k=R) w W9:=by rw [← hW9];exact frp3 F6.out (Or.inr (Nat.le_refl _)) _ _ _
   have F69:Fr (fun k=>k=w.heap.size) w6 W9:=by rw [← hW9];exact frp3 (Fr.refl (fun k=>k=w.heap.size) w6) (Or.inl rfl) _ _ _
   clear hW9
   obtain ⟨x0,x1,x2⟩:=bx3 X9
   refine bodyPost_ret (by simp [results,Tryz.results157,go_sem,x0,x1,x2];try rfl) rfl ?_
   rw [hG.out]
   exact ⟨_,rfl,rfl,A6.out.fr F69 (fun k e=>by omega),F9⟩
theorem tshape_11 (w:World):Calls Tryz.prog 79 #[.int .i64 11] w fun e w'=>e=.returned (.agg #[.string ⟨#[112,114,101,118]⟩,.bool false,.bool false,.bool false,.bool true,.int .i64 0,.int .i64 0,.int .i64 1,.bool false])∧Below w.heap.size w w':=by
 go_enter Tryz.func79,Tryz.ntmps79
 go_wp2
 refine bodyPost_ret (by simp [results,Tryz.results79,go_sem];try rfl) rfl ?_
 exact ⟨rfl,by go_grown⟩
theorem tshape_12 (w:World):Calls Tryz.prog 79 #[.int .i64 12] w fun e w'=>e=.returned (.agg #[.string ⟨#[110,101,120,116]⟩,.bool false,.bool false,.bool false,.bool true,.int .i64 0,.int .i64 0,.int .i64 1,.bool false])∧Below w.heap.size w w':=by
 go_enter Tryz.func79,Tryz.ntmps79
 go_wp2
 refine bodyPost_ret (by simp [results,Tryz.results79,go_sem];try rfl) rfl ?_
 exact ⟨rfl,by go_grown⟩
theorem tshape_13 (w:World):Calls Tryz.prog 79 #[.int .i64 13] w fun e w'=>e=.returned (.agg #[.string ⟨#[111,110,99,101]⟩,.bool false,.bool false,.bool false,.bool true,.int .i64 0,.int .i64 0,.int .i64 1,.bool false])∧Below w.heap.size w w':=by
 go_enter Tryz.func79,Tryz.ntmps79
 go_wp2
 refine bodyPost_ret (by simp [results,Tryz.results79,go_sem];try rfl) rfl ?_
 exact ⟨rfl,by go_grown⟩
theorem tshape_14 (w:World):Calls Tryz.prog 79 #[.int .i64 14] w fun e w'=>e=.returned (.agg #[.string ⟨#[115,111,111,110]⟩,.bool false,.bool false,.bool false,.bool true,.int .i64 0,.int .i64 0,.int .i64 1,.bool false])∧Below w.heap.size w w':=by
 go_enter Tryz.func79,Tryz.ntmps79
 go_wp2
 refine bodyPost_ret (by simp [results,Tryz.results79,go_sem];try rfl) rfl ?_
 exact ⟨rfl,by go_grown⟩
theorem tshape_15 (w:World):Calls Tryz.prog 79 #[.int .i64 15] w fun e w'=>e=.returned (.agg #[.string ⟨#[115,105,110,99,101]⟩,.bool false,.bool false,.bool false,.bool true,.int .i64 0,.int .i64 0,.int .i64 2,.bool false])∧Below w.heap.size w w':=by
 go_enter Tryz.func79,Tryz.ntmps79
 go_wp2
 refine bodyPost_ret (by simp [results,Tryz.results79,go_sem];try rfl) rfl ?_
 exact ⟨rfl,by go_grown⟩
theorem tshape_16 (w:World):Calls Tryz.prog 79 #[.int .i64 16] w fun e w'=>e=.returned (.agg #[.string ⟨#[117,110,116,105,108]⟩,.bool false,.bool false,.bool false,.bool true,.int .i64 0,.int .i64 0,.int .i64 2,.bool false])∧Below w.heap.size w w':=by
 go_enter Tryz.func79,Tryz.ntmps79
 go_wp2
 refine bodyPost_ret (by simp [results,Tryz.results79,go_sem];try rfl) rfl ?_
 exact ⟨rfl,by go_grown⟩
theorem tshape_17 (w:World):Calls Tryz.prog 79 #[.int .i64 17] w fun e w'=>e=.returned (.agg #[.string ⟨#[98,101,102,111,114,101]⟩,.bool false,.bool false,.bool false,.bool true,.int .i64 0,.int .i64 1,.int .i64 0,.bool false])∧Below w.heap.size w w':=by
 go_enter Tryz.func79,Tryz.ntmps79
 go_wp2
 refine bodyPost_ret (by simp [results,Tryz.results79,go_sem];try rfl) rfl ?_
 exact ⟨rfl,by go_grown⟩
theorem tshape_18 (w:World):Calls Tryz.prog 79 #[.int .i64 18] w fun e w'=>e=.returned (.agg #[.string ⟨#[97,102,116,101,114]⟩,.bool false,.bool false,.bool false,.bool true,.int .i64 0,.int .i64 1,.int .i64 0,.bool false])∧Below w.heap.size w w':=by
 go_enter Tryz.func79,Tryz.ntmps79
 go_wp2
 refine bodyPost_ret (by simp [results,Tryz.results79,go_sem];try rfl) rfl ?_
 exact ⟨rfl,by go_grown⟩
theorem shape_3 (w:World):Calls Tryz.prog 35 #[.int .i64 3] w fun e w'=>e=.returned (.agg #[.string ⟨#[]⟩,.bool true,.bool false,.bool false,.bool false,.int .i64 0,.int .i64 0,.int .i64 0,.bool false])∧Below w.heap.size w w':=by
 go_enter Tryz.func35,Tryz.ntmps35
 go_wp2
 refine bodyPost_ret (by simp [results,Tryz.results35,go_sem];try rfl) rfl ?_
 exact ⟨rfl,by go_grown⟩
theorem shape_4 (w:World):Calls Tryz.prog 35 #[.int .i64 4] w fun e w'=>e=.returned (.agg #[.string ⟨#[61]⟩,.bool false,.bool false,.bool false,.bool false,.int .i64 2,.int .i64 0,.int .i64 0,.bool false])∧Below w.heap.size w w':=by
 go_enter Tryz.func35,Tryz.ntmps35
 go_wp2
 refine bodyPost_ret (by simp [results,Tryz.results35,go_sem];try rfl) rfl ?_
 exact ⟨rfl,by go_grown⟩
theorem shape_5 (w:World):Calls Tryz.prog 35 #[.int .i64 5] w fun e w'=>e=.returned (.agg #[.string ⟨#[60]⟩,.bool false,.bool false,.bool false,.bool false,.int .i64 2,.int .i64 0,.int .i64 0,.bool false])∧Below w.heap.size w w':=by
 go_enter Tryz.func35,Tryz.ntmps35
 go_wp2
 refine bodyPost_ret (by simp [results,Tryz.results35,go_sem];try rfl) rfl ?_
 exact ⟨rfl,by go_grown⟩
theorem shape_6 (w:World):Calls Tryz.prog 35 #[.int .i64 6] w fun e w'=>e=.returned (.agg #[.string ⟨#[60,61]⟩,.bool false,.bool false,.bool false,.bool false,.int .i64 2,.int .i64 0,.int .i64 0,.bool false])∧Below w.heap.size w w':=by
 go_enter Tryz.func35,Tryz.ntmps35
 go_wp2
 refine bodyPost_ret (by simp [results,Tryz.results35,go_sem];try rfl) rfl ?_
 exact ⟨rfl,by go_grown⟩
theorem shape_7 (w:World):Calls Tryz.prog 35 #[.int .i64 7] w fun e w'=>e=.returned (.agg #[.string ⟨#[110,111,116]⟩,.bool false,.bool false,.bool false,.bool false,.int .i64 0,.int .i64 0,.int .i64 1,.bool false])∧Below w.heap.size w w':=by
 go_enter Tryz.func35,Tryz.ntmps35
 go_wp2
 refine bodyPost_ret (by simp [results,Tryz.results35,go_sem];try rfl) rfl ?_
 exact ⟨rfl,by go_grown⟩
theorem shape_8 (w:World):Calls Tryz.prog 35 #[.int .i64 8] w fun e w'=>e=.returned (.agg #[.string ⟨#[97,110,100]⟩,.bool false,.bool false,.bool false,.bool false,.int .i64 0,.int .i64 0,.int .i64 2,.bool false])∧Below w.heap.size w w':=by
 go_enter Tryz.func35,Tryz.ntmps35
 go_wp2
 refine bodyPost_ret (by simp [results,Tryz.results35,go_sem];try rfl) rfl ?_
 exact ⟨rfl,by go_grown⟩
theorem shape_9 (w:World):Calls Tryz.prog 35 #[.int .i64 9] w fun e w'=>e=.returned (.agg #[.string ⟨#[111,114]⟩,.bool false,.bool false,.bool false,.bool false,.int .i64 0,.int .i64 0,.int .i64 2,.bool false])∧Below w.heap.size w w':=by
 go_enter Tryz.func35,Tryz.ntmps35
 go_wp2
 refine bodyPost_ret (by simp [results,Tryz.results35,go_sem];try rfl) rfl ?_
 exact ⟨rfl,by go_grown⟩
theorem shape_10 (w:World):Calls Tryz.prog 35 #[.int .i64 10] w fun e w'=>e=.returned (.agg #[.string ⟨#[101,120,105,115,116,115]⟩,.bool false,.bool false,.bool true,.bool false,.int .i64 0,.int .i64 0,.int .i64 1,.bool false])∧Below w.heap.size w w':=by
 go_enter Tryz.func35,Tryz.ntmps35
 go_wp2
 refine bodyPost_ret (by simp [results,Tryz.results35,go_sem];try rfl) rfl ?_
 exact ⟨rfl,by go_grown⟩
theorem shape_11 (w:World):Calls Tryz.prog 35 #[.int .i64 11] w fun e w'=>e=.returned (.agg #[.string ⟨#[112,114,101,118]⟩,.bool false,.bool false,.bool false,.bool true,.int .i64 0,.int .i64 0,.int .i64 1,.bool false])∧Below w.heap.size w w':=by
 go_enter Tryz.func35,Tryz.ntmps35
 go_wp2_with fail
 refine (tshape_11 _).mono ?_
 rintro e w1 ⟨rfl,hb⟩
 have z1:w.heap.size<w1.heap.size:=by have:=hb.size;simp at this;omega
 have X1:Hid (w1.heap[w.heap.size]? =some (.cells #[.string ⟨#[]⟩,.bool false,.bool false,.bool false,.bool false,.int .i64 0,.int .i64 0,.int .i64 0,.bool false] 82 (0,0))):=(hb.block w.heap.size (by simp)).trans (new_box w _)
 have B1:Below w.heap.size w w1:=((Below.refl _ _).alloc (Nat.le_refl _) _).trans (hb.mono (by simp))
 clear hb
 obtain ⟨r0,r1,r2,r3,r4,r5,r6,r7,r8⟩:=bx9 X1.out
 obtain ⟨q0,q1,q2,q3,q4,q5,q6,q7,q8⟩:=bz9 X1.out
 go_wp2
 generalize hW9:World.setCell _ _ _=W9
 have X9:W9.heap[w.heap.size]? =some (.cells #[.string ⟨#[112,114,101,118]⟩,.bool false,.bool false,.bool false,.bool true,.int .i64 0,.int .i64 0,.int .i64 1,.bool false] 82 (0,0)):=by rw [← hW9];exact put9 X1.out
 have B9:Below w.heap.size w W9:=by rw [← hW9];exact (frp9 (P:=fun k=>w.heap.size≤k) (Fr.of_below (P:=fun k=>w.heap.size≤k) B1) (Or.inl (Nat.le_refl _)) _ _ _ _ _ _ _ _ _).below (Nat.le_refl _) (fun k h=>h)
 clear hW9
 obtain ⟨x0,x1,x2,x3,x4,x5,x6,x7,x8⟩:=bx9 X9
 refine bodyPost_ret (by simp [results,Tryz.results35,go_sem,x0,x1,x2,x3,x4,x5,x6,x7,x8];try rfl) rfl ?_
 exact ⟨rfl,B9⟩
theorem shape_12 (w:World):Calls Tryz.prog 35 #[.int .i64 12] w fun e w'=>e=.returned (.agg #[.string ⟨#[110,101,120,116]⟩,.bool false,.bool false,.bool false,.bool true,.int .i64 0,.int .i64 0,.int .i64 1,.bool false])∧Below w.heap.size w w':=by
 go_enter Tryz.func35,Tryz.ntmps35
 go_wp2_with fail
 refine (tshape_12 _).mono ?_
 rintro e w1 ⟨rfl,hb⟩
 have z1:w.heap.size<w1.heap.size:=by have:=hb.size;simp at this;omega
 have X1:Hid (w1.heap[w.heap.size]? =some (.cells #[.string ⟨#[]⟩,.bool false,.bool false,.bool false,.bool false,.int .i64 0,.int .i64 0,.int .i64 0,.bool false] 82 (0,0))):=(hb.block w.heap.size (by simp)).trans (new_box w _)
 have B1:Below w.heap.size w w1:=((Below.refl _ _).alloc (Nat.le_refl _) _).trans (hb.mono (by simp))
 clear hb
 obtain ⟨r0,r1,r2,r3,r4,r5,r6,r7,r8⟩:=bx9 X1.out
 obtain ⟨q0,q1,q2,q3,q4,q5,q6,q7,q8⟩:=bz9 X1.out
 go_wp2
 generalize hW9:World.setCell _ _ _=W9
 have X9:W9.heap[w.heap.size]? =some (.cells #[.string ⟨#[110,101,120,116]⟩,.bool false,.bool false,.bool false,.bool true,.int .i64 0,.int .i64 0,.int .i64 1,.bool false] 82 (0,0)):=by rw [← hW9];exact put9 X1.out
 have B9:Below w.heap.size w W9:=by rw [← hW9];exact (frp9 (P:=fun k=>w.heap.size≤k) (Fr.of_below (P:=fun k=>w.heap.size≤k) B1) (Or.inl (Nat.le_refl _)) _ _ _ _ _ _ _ _ _).below (Nat.le_refl _) (fun k h=>h)
 clear hW9
 obtain ⟨x0,x1,x2,x3,x4,x5,x6,x7,x8⟩:=bx9 X9
 refine bodyPost_ret (by simp [results,Tryz.results35,go_sem,x0,x1,x2,x3,x4,x5,x6,x7,x8];try rfl) rfl ?_
 exact ⟨rfl,B9⟩
theorem shape_13 (w:World):Calls Tryz.prog 35 #[.int .i64 13] w fun e w'=>e=.returned (.agg #[.string ⟨#[111,110,99,101]⟩,.bool false,.bool false,.bool false,.bool true,.int .i64 0,.int .i64 0,.int .i64 1,.bool false])∧Below w.heap.size w w':=by
 go_enter Tryz.func35,Tryz.ntmps35
 go_wp2_with fail
 refine (tshape_13 _).mono ?_
 rintro e w1 ⟨rfl,hb⟩
 have z1:w.heap.size<w1.heap.size:=by have:=hb.size;simp at this;omega
 have X1:Hid (w1.heap[w.heap.size]? =some (.cells #[.string ⟨#[]⟩,.bool false,.bool false,.bool false,.bool false,.int .i64 0,.int .i64 0,.int .i64 0,.bool false] 82 (0,0))):=(hb.block w.heap.size (by simp)).trans (new_box w _)
 have B1:Below w.heap.size w w1:=((Below.refl _ _).alloc (Nat.le_refl _) _).trans (hb.mono (by simp))
 clear hb
 obtain ⟨r0,r1,r2,r3,r4,r5,r6,r7,r8⟩:=bx9 X1.out
 obtain ⟨q0,q1,q2,q3,q4,q5,q6,q7,q8⟩:=bz9 X1.out
 go_wp2
 generalize hW9:World.setCell _ _ _=W9
 have X9:W9.heap[w.heap.size]? =some (.cells #[.string ⟨#[111,110,99,101]⟩,.bool false,.bool false,.bool false,.bool true,.int .i64 0,.int .i64 0,.int .i64 1,.bool false] 82 (0,0)):=by rw [← hW9];exact put9 X1.out
 have B9:Below w.heap.size w W9:=by rw [← hW9];exact (frp9 (P:=fun k=>w.heap.size≤k) (Fr.of_below (P:=fun k=>w.heap.size≤k) B1) (Or.inl (Nat.le_refl _)) _ _ _ _ _ _ _ _ _).below (Nat.le_refl _) (fun k h=>h)
 clear hW9
 obtain ⟨x0,x1,x2,x3,x4,x5,x6,x7,x8⟩:=bx9 X9
 refine bodyPost_ret (by simp [results,Tryz.results35,go_sem,x0,x1,x2,x3,x4,x5,x6,x7,x8];try rfl) rfl ?_
 exact ⟨rfl,B9⟩
theorem shape_14 (w:World):Calls Tryz.prog 35 #[.int .i64 14] w fun e w'=>e=.returned (.agg #[.string ⟨#[115,111,111,110]⟩,.bool false,.bool false,.bool false,.bool true,.int .i64 0,.int .i64 0,.int .i64 1,.bool false])∧Below w.heap.size w w':=by
 go_enter Tryz.func35,Tryz.ntmps35
 go_wp2_with fail
 refine (tshape_14 _).mono ?_
 rintro e w1 ⟨rfl,hb⟩
 have z1:w.heap.size<w1.heap.size:=by have:=hb.size;simp at this;omega
 have X1:Hid (w1.heap[w.heap.size]? =some (.cells #[.string ⟨#[]⟩,.bool false,.bool false,.bool false,.bool false,.int .i64 0,.int .i64 0,.int .i64 0,.bool false] 82 (0,0))):=(hb.block w.heap.size (by simp)).trans (new_box w _)
 have B1:Below w.heap.size w w1:=((Below.refl _ _).alloc (Nat.le_refl _) _).trans (hb.mono (by simp))
 clear hb
 obtain ⟨r0,r1,r2,r3,r4,r5,r6,r7,r8⟩:=bx9 X1.out
 obtain ⟨q0,q1,q2,q3,q4,q5,q6,q7,q8⟩:=bz9 X1.out
 go_wp2
 generalize hW9:World.setCell _ _ _=W9
 have X9:W9.heap[w.heap.size]? =some (.cells #[.string ⟨#[115,111,111,110]⟩,.bool false,.bool false,.bool false,.bool true,.int .i64 0,.int .i64 0,.int .i64 1,.bool false] 82 (0,0)):=by rw [← hW9];exact put9 X1.out
 have B9:Below w.heap.size w W9:=by rw [← hW9];exact (frp9 (P:=fun k=>w.heap.size≤k) (Fr.of_below (P:=fun k=>w.heap.size≤k) B1) (Or.inl (Nat.le_refl _)) _ _ _ _ _ _ _ _ _).below (Nat.le_refl _) (fun k h=>h)
 clear hW9
 obtain ⟨x0,x1,x2,x3,x4,x5,x6,x7,x8⟩:=bx9 X9
 refine bodyPost_ret (by simp [results,Tryz.results35,go_sem,x0,x1,x2,x3,x4,x5,x6,x7,x8];try rfl) rfl ?_
 exact ⟨rfl,B9⟩
theorem shape_15 (w:World):Calls Tryz.prog 35 #[.int .i64 15] w fun e w'=>e=.returned (.agg #[.string ⟨#[115,105,110,99,101]⟩,.bool false,.bool false,.bool false,.bool true,.int .i64 0,.int .i64 0,.int .i64 2,.bool false])∧Below w.heap.size w w':=by
 go_enter Tryz.func35,Tryz.ntmps35
 go_wp2_with fail
 refine (tshape_15 _).mono ?_
 rintro e w1 ⟨rfl,hb⟩
 have z1:w.heap.size<w1.heap.size:=by have:=hb.size;simp at this;omega
 have X1:Hid (w1.heap[w.heap.size]? =some (.cells #[.string ⟨#[]⟩,.bool false,.bool false,.bool false,.bool false,.int .i64 0,.int .i64 0,.int .i64 0,.bool false] 82 (0,0))):=(hb.block w.heap.size (by simp)).trans (new_box w _)
 have B1:Below w.heap.size w w1:=((Below.refl _ _).alloc (Nat.le_refl _) _).trans (hb.mono (by simp))
 clear hb
 obtain ⟨r0,r1,r2,r3,r4,r5,r6,r7,r8⟩:=bx9 X1.out
 obtain ⟨q0,q1,q2,q3,q4,q5,q6,q7,q8⟩:=bz9 X1.out
 go_wp2
 generalize hW9:World.setCell _ _ _=W9
 have X9:W9.heap[w.heap.size]? =some (.cells #[.string ⟨#[115,105,110,99,101]⟩,.bool false,.bool false,.bool false,.bool true,.int .i64 0,.int .i64 0,.int .i64 2,.bool false] 82 (0,0)):=by rw [← hW9];exact put9 X1.out
 have B9:Below w.heap.size w W9:=by rw [← hW9];exact (frp9 (P:=fun k=>w.heap.size≤k) (Fr.of_below (P:=fun k=>w.heap.size≤k) B1) (Or.inl (Nat.le_refl _)) _ _ _ _ _ _ _ _ _).below (Nat.le_refl _) (fun k h=>h)
 clear hW9
 obtain ⟨x0,x1,x2,x3,x4,x5,x6,x7,x8⟩:=bx9 X9
 refine bodyPost_ret (by simp [results,Tryz.results35,go_sem,x0,x1,x2,x3,x4,x5,x6,x7,x8];try rfl) rfl ?_
 exact ⟨rfl,B9⟩
theorem shape_16 (w:World):Calls Tryz.prog 35 #[.int .i64 16] w fun e w'=>e=.returned (.agg #[.string ⟨#[117,110,116,105,108]⟩,.bool false,.bool false,.bool false,.bool true,.int .i64 0,.int .i64 0,.int .i64 2,.bool false])∧Below w.heap.size w w':=by
 go_enter Tryz.func35,Tryz.ntmps35
 go_wp2_with fail
 refine (tshape_16 _).mono ?_
 rintro e w1 ⟨rfl,hb⟩
 have z1:w.heap.size<w1.heap.size:=by have:=hb.size;simp at this;omega
 have X1:Hid (w1.heap[w.heap.size]? =some (.cells #[.string ⟨#[]⟩,.bool false,.bool false,.bool false,.bool false,.int .i64 0,.int .i64 0,.int .i64 0,.bool false] 82 (0,0))):=(hb.block w.heap.size (by simp)).trans (new_box w _)
 have B1:Below w.heap.size w w1:=((Below.refl _ _).alloc (Nat.le_refl _) _).trans (hb.mono (by simp))
 clear hb
 obtain ⟨r0,r1,r2,r3,r4,r5,r6,r7,r8⟩:=bx9 X1.out
 obtain ⟨q0,q1,q2,q3,q4,q5,q6,q7,q8⟩:=bz9 X1.out
 go_wp2
 generalize hW9:World.setCell _ _ _=W9
 have X9:W9.heap[w.heap.size]? =some (.cells #[.string ⟨#[117,110,116,105,108]⟩,.bool false,.bool false,.bool false,.bool true,.int .i64 0,.int .i64 0,.int .i64 2,.bool false] 82 (0,0)):=by rw [← hW9];exact put9 X1.out
 have B9:Below w.heap.size w W9:=by rw [← hW9];exact (frp9 (P:=fun k=>w.heap.size≤k) (Fr.of_below (P:=fun k=>w.heap.size≤k) B1) (Or.inl (Nat.le_refl _)) _ _ _ _ _ _ _ _ _).below (Nat.le_refl _) (fun k h=>h)
 clear hW9
 obtain ⟨x0,x1,x2,x3,x4,x5,x6,x7,x8⟩:=bx9 X9
 refine bodyPost_ret (by simp [results,Tryz.results35,go_sem,x0,x1,x2,x3,x4,x5,x6,x7,x8];try rfl) rfl ?_
 exact ⟨rfl,B9⟩
theorem shape_17 (w:World):Calls Tryz.prog 35 #[.int .i64 17] w fun e w'=>e=.returned (.agg #[.string ⟨#[98,101,102,111,114,101]⟩,.bool false,.bool false,.bool false,.bool true,.int .i64 0,.int .i64 1,.int .i64 0,.bool false])∧Below w.heap.size w w':=by
 go_enter Tryz.func35,Tryz.ntmps35
 go_wp2_with fail
 refine (tshape_17 _).mono ?_
 rintro e w1 ⟨rfl,hb⟩
 have z1:w.heap.size<w1.heap.size:=by have:=hb.size;simp at this;omega
 have X1:Hid (w1.heap[w.heap.size]? =some (.cells #[.string ⟨#[]⟩,.bool false,.bool false,.bool false,.bool false,.int .i64 0,.int .i64 0,.int .i64 0,.bool false] 82 (0,0))):=(hb.block w.heap.size (by simp)).trans (new_box w _)
 have B1:Below w.heap.size w w1:=((Below.refl _ _).alloc (Nat.le_refl _) _).trans (hb.mono (by simp))
 clear hb
 obtain ⟨r0,r1,r2,r3,r4,r5,r6,r7,r8⟩:=bx9 X1.out
 obtain ⟨q0,q1,q2,q3,q4,q5,q6,q7,q8⟩:=bz9 X1.out
 go_wp2
 generalize hW9:World.setCell _ _ _=W9
 have X9:W9.heap[w.heap.size]? =some (.cells #[.string ⟨#[98,101,102,111,114,101]⟩,.bool false,.bool false,.bool false,.bool true,.int .i64 0,.int .i64 1,.int .i64 0,.bool false] 82 (0,0)):=by rw [← hW9];exact put9 X1.out
 have B9:Below w.heap.size w W9:=by rw [← hW9];exact (frp9 (P:=fun k=>w.heap.size≤k) (Fr.of_below (P:=fun k=>w.heap.size≤k) B1) (Or.inl (Nat.le_refl _)) _ _ _ _ _ _ _ _ _).below (Nat.le_refl _) (fun k h=>h)
 clear hW9
 obtain ⟨x0,x1,x2,x3,x4,x5,x6,x7,x8⟩:=bx9 X9
 refine bodyPost_ret (by simp [results,Tryz.results35,go_sem,x0,x1,x2,x3,x4,x5,x6,x7,x8];try rfl) rfl ?_
 exact ⟨rfl,B9⟩
theorem shape_18 (w:World):Calls Tryz.prog 35 #[.int .i64 18] w fun e w'=>e=.returned (.agg #[.string ⟨#[97,102,116,101,114]⟩,.bool false,.bool false,.bool false,.bool true,.int .i64 0,.int .i64 1,.int .i64 0,.bool false])∧Below w.heap.size w w':=by
 go_enter Tryz.func35,Tryz.ntmps35
 go_wp2_with fail
 refine (tshape_18 _).mono ?_
 rintro e w1 ⟨rfl,hb⟩
 have z1:w.heap.size<w1.heap.size:=by have:=hb.size;simp at this;omega
 have X1:Hid (w1.heap[w.heap.size]? =some (.cells #[.string ⟨#[]⟩,.bool false,.bool false,.bool false,.bool false,.int .i64 0,.int .i64 0,.int .i64 0,.bool false] 82 (0,0))):=(hb.block w.heap.size (by simp)).trans (new_box w _)
 have B1:Below w.heap.size w w1:=((Below.refl _ _).alloc (Nat.le_refl _) _).trans (hb.mono (by simp))
 clear hb
 obtain ⟨r0,r1,r2,r3,r4,r5,r6,r7,r8⟩:=bx9 X1.out
 obtain ⟨q0,q1,q2,q3,q4,q5,q6,q7,q8⟩:=bz9 X1.out
 go_wp2
 generalize hW9:World.setCell _ _ _=W9
 have X9:W9.heap[w.heap.size]? =some (.cells #[.string ⟨#[97,102,116,101,114]⟩,.bool false,.bool false,.bool false,.bool true,.int .i64 0,.int .i64 1,.int .i64 0,.bool false] 82 (0,0)):=by rw [← hW9];exact put9 X1.out
 have B9:Below w.heap.size w W9:=by rw [← hW9];exact (frp9 (P:=fun k=>w.heap.size≤k) (Fr.of_below (P:=fun k=>w.heap.size≤k) B1) (Or.inl (Nat.le_refl _)) _ _ _ _ _ _ _ _ _).below (Nat.le_refl _) (fun k h=>h)
 clear hW9
 obtain ⟨x0,x1,x2,x3,x4,x5,x6,x7,x8⟩:=bx9 X9
 refine bodyPost_ret (by simp [results,Tryz.results35,go_sem,x0,x1,x2,x3,x4,x5,x6,x7,x8];try rfl) rfl ?_
 exact ⟨rfl,B9⟩
theorem shape_19 (w:World):Calls Tryz.prog 35 #[.int .i64 19] w fun e w'=>e=.returned (.agg #[.string ⟨#[97,103,103]⟩,.bool true,.bool true,.bool true,.bool false,.int .i64 0,.int .i64 0,.int .i64 1,.bool false])∧Below w.heap.size w w':=by
 go_enter Tryz.func35,Tryz.ntmps35
 go_wp2
 refine bodyPost_ret (by simp [results,Tryz.results35,go_sem];try rfl) rfl ?_
 exact ⟨rfl,by go_grown⟩
theorem shape_20 (w:World):Calls Tryz.prog 35 #[.int .i64 20] w fun e w'=>e=.returned (.agg #[.string ⟨#[108,101,116]⟩,.bool true,.bool false,.bool true,.bool false,.int .i64 0,.int .i64 0,.int .i64 2,.bool false])∧Below w.heap.size w w':=by
 go_enter Tryz.func35,Tryz.ntmps35
 go_wp2
 refine bodyPost_ret (by simp [results,Tryz.results35,go_sem];try rfl) rfl ?_
 exact ⟨rfl,by go_grown⟩
theorem shape_21 (w:World):Calls Tryz.prog 35 #[.int .i64 21] w fun e w'=>e=.returned (.agg #[.string ⟨#[108,101,116,112,97,115,116]⟩,.bool true,.bool false,.bool true,.bool false,.int .i64 0,.int .i64 0,.int .i64 2,.bool false])∧Below w.heap.size w w':=by
 go_enter Tryz.func35,Tryz.ntmps35
 go_wp2
 refine bodyPost_ret (by simp [results,Tryz.results35,go_sem];try rfl) rfl ?_
 exact ⟨rfl,by go_grown⟩
theorem shape_22 (w:World):Calls Tryz.prog 35 #[.int .i64 22] w fun e w'=>e=.returned (.agg #[.string ⟨#[106,111,105,110]⟩,.bool false,.bool false,.bool false,.bool false,.int .i64 0,.int .i64 0,.int .i64 1,.bool true])∧Below w.heap.size w w':=by
 go_enter Tryz.func35,Tryz.ntmps35
 go_wp2
 refine bodyPost_ret (by simp [results,Tryz.results35,go_sem];try rfl) rfl ?_
 exact ⟨rfl,by go_grown⟩
theorem shape_any (k:Int) (w:World) (h3:3≤k) (h22:k≤22):Calls Tryz.prog 35 #[.int .i64 k] w fun e w'=>e=.returned (.agg #[.string ⟨(if k=3 then [] else hdF k).toArray⟩,.bool (shp k).named,.bool (shp k).reck,.bool (shp k).listed,.bool (shp k).timed,.int .i64 (shp k).terms,.int .i64 (shp k).rgx,.int .i64 (shp k).subs,.bool (shp k).more])∧Below w.heap.size w w':=by
 by_cases e3:k=3
 ·subst e3;exact shape_3 w
 by_cases e4:k=4
 ·subst e4;exact shape_4 w
 by_cases e5:k=5
 ·subst e5;exact shape_5 w
 by_cases e6:k=6
 ·subst e6;exact shape_6 w
 by_cases e7:k=7
 ·subst e7;exact shape_7 w
 by_cases e8:k=8
 ·subst e8;exact shape_8 w
 by_cases e9:k=9
 ·subst e9;exact shape_9 w
 by_cases e10:k=10
 ·subst e10;exact shape_10 w
 by_cases e11:k=11
 ·subst e11;exact shape_11 w
 by_cases e12:k=12
 ·subst e12;exact shape_12 w
 by_cases e13:k=13
 ·subst e13;exact shape_13 w
 by_cases e14:k=14
 ·subst e14;exact shape_14 w
 by_cases e15:k=15
 ·subst e15;exact shape_15 w
 by_cases e16:k=16
 ·subst e16;exact shape_16 w
 by_cases e17:k=17
 ·subst e17;exact shape_17 w
 by_cases e18:k=18
 ·subst e18;exact shape_18 w
 by_cases e19:k=19
 ·subst e19;exact shape_19 w
 by_cases e20:k=20
 ·subst e20;exact shape_20 w
 by_cases e21:k=21
 ·subst e21;exact shape_21 w
 by_cases e22:k=22
 ·subst e22;exact shape_22 w
 omega
theorem own_none (P:Nat→Prop) (w:World) (f:Fm) (hv:f.vars=[]) (ht:f.terms=[]) (hs:f.subs=[]) (hr:f.rgx=[]):QOwn P w (f,⟨.slice none 0 0,.slice none 0 0,.slice none 0 0,.slice none 0 0⟩):=by
 have e:∀ q,(Value.slice none 0 0).ownBlock=some q→P q:=fun q hq=>by cases hq
 refine ⟨?_, ?_, ?_, ?_⟩
 ·show NmsOwn P w _ f.vars
  rw [hv]
  exact ⟨⟨rfl,Or.inl ⟨rfl,rfl⟩⟩,by decide,e⟩
 ·show TmsOwn P w _ f.terms
  rw [ht]
  exact TmsOwn.nil _ _
 ·show FmsOwn P w _ f.subs
  rw [hs]
  exact .mk [] rfl (by decide) ⟨rfl,Or.inl ⟨rfl,rfl⟩⟩ e (fun x hx=>by cases hx) (fun x hx=>by cases hx) (fun x hx=>by cases hx) (fun x hx=>by cases hx)
 ·show RxsOwn P w _ f.rgx
  rw [hr]
  exact .mk [] rfl (by decide) ⟨rfl,Or.inl ⟨rfl,rfl⟩⟩ e (fun x hx=>by cases hx) (fun x hx=>by cases hx)
def pF2 (sz:Nat) (ph:List (Tok Val)→Rd Fm) (u:List (Tok Val)):Rd Fm:=(ph u).bind fun f r'=>(rExp sz [41] r').bind fun _ r''=>.ok f r''
theorem pForm_eq (sz n:Nat) (pt:List (Tok Val)→Rd Tm) (pf:List (Tok Val)→Rd Fm) (pr:List (Tok Val)→Rd Rx) (d:Int) (ts:List (Tok Val)) (hd:¬ (24<d∧(tkH sz ts).k≠0)) (hok:∀ t∈ts,TkOk t):∃ u,pForm sz n pt pf pr d ts=(if (tkH sz ts).x=[116,114,117,101] then .ok (fmK 1) u else if (tkH sz ts).x=[102,97,108,115,101] then .ok (fmK 2) u else if (tkH sz ts).x=[40] then pF2 sz (pHead sz n pt pf pr) u else .bad 70 (tkH sz ts).at_)∧((tkH sz ts).x≠[]→∃ t,ts=t::u):=by
 cases ts with
 | nil=>exact ⟨[],rfl,fun h=>absurd rfl h⟩
 | cons t r=>
  have hk:t.k≠0:=(hok t (by simp)).2.1
  have hd':¬ 24<d:=fun h=>hd ⟨h,hk⟩
  refine ⟨r, ?_,fun _=>⟨t,rfl⟩⟩
  rw [pForm,rBeg,if_neg hd',Rd.bind_ok]
  rfl
theorem pForm_deep (sz n:Nat) (pt:List (Tok Val)→Rd Tm) (pf:List (Tok Val)→Rd Fm) (pr:List (Tok Val)→Rd Rx) (d:Int) (ts:List (Tok Val)) (hd:24<d∧(tkH sz ts).k≠0):pForm sz n pt pf pr d ts=.bad 71 (tkH sz ts).at_:=by
 cases ts with
 | nil=>exact absurd rfl hd.2
 | cons t r=>rw [pForm,rBeg,if_pos hd.1,Rd.bind_bad];rfl
theorem formula_deep (m R sz:Nat) (ts:List (Tok Val)) (d:Int) (w:World) (h:RdAt m w R sz ts) (hd:24<d∧(tkH sz ts).k≠0):Calls Tryz.prog 31 #[.pointer (some ⟨R,0,none⟩),.int .i64 d] w (RdO m R sz w (FmV w) (.bad 71 (tkH sz ts).at_)):=by
 have CB:Hid (∀ W:World,Below w.heap.size w W→Calls Tryz.prog 74 #[.pointer (some ⟨R,0,none⟩),.int .i64 d] W fun e w'=>e=faultE 71 (tkH sz ts).at_∧Fr (fun k=>k=R) W w'):=fun W hW=>begin_deep m R sz ts d W (h.below hW) hd.1 hd.2
 generalize (tkH sz ts).at_=ta at*
 go_enter Tryz.func31,Tryz.ntmps31
 go_wp2_with fail
 refine (CB.out _ (by go_grown)).mono ?_
 rintro e w1 ⟨rfl,hF⟩
 exact ⟨rfl,rfl,((Fr.refl (fun k=>k=R) w).alloc _).trans hF (fun k e=>Or.inl e)⟩
theorem formula_true (m R sz:Nat) (ts:List (Tok Val)) (d:Int) (w:World) (h:RdAt m w R sz ts) (hd:¬ (24<d∧(tkH sz ts).k≠0)) (hx:(tkH sz ts).x=[116,114,117,101]) (t0:Tok Val) (u:List (Tok Val)) (hT:ts=t0::u):Calls Tryz.prog 31 #[.pointer (some ⟨R,0,none⟩),.int .i64 d] w (RdO m R sz w (FmV w) (.ok (fmK 1) u)):=by
 have CB:Hid (∀ W:World,Below w.heap.size w W→Calls Tryz.prog 74 #[.pointer (some ⟨R,0,none⟩),.int .i64 d] W (NxO m R sz ts W (.agg #[.int .i64 (tkH sz ts).k,.int .i64 (tkH sz ts).at_,.string (txB (tkH sz ts)),.int .i64 (tkH sz ts).v.k,.int .i64 (tkH sz ts).v.n,.int .i64 (tkH sz ts).v.d,.string (tkH sz ts).v.s]))):=fun W hW=>begin_any m R sz ts d W (h.below hW) hd
 have hlt:=h.lt
 have hx2:((txB (tkH sz ts)).toList==[116,114,117,101])=true:=by rw [beq_data];exact decide_eq_true hx
 generalize (tkH sz ts).k=tk at*
 generalize (tkH sz ts).at_=ta at*
 generalize txB (tkH sz ts)=tx at*
 generalize (tkH sz ts).v.k=vk at*
 generalize (tkH sz ts).v.n=vn at*
 generalize (tkH sz ts).v.d=vd at*
 generalize (tkH sz ts).v.s=vs at*
 go_enter Tryz.func31,Tryz.ntmps31
 go_wp2_with fail
 refine (CB.out _ (by go_grown)).mono ?_
 rintro e w1 ⟨rfl,hF,hN⟩
 have z1:w.heap.size<w1.heap.size:=by have:=hF.size;simp at this;omega
 have X1:Hid (w1.heap[w.heap.size]? =some (.cells #[.int .i64 0,.string ⟨#[]⟩,.int .i64 0,.slice none 0 0,.slice none 0 0,.int .i64 0,.int .i64 0,.bool false,.slice none 0 0,.slice none 0 0] 29 (0,0))):=hF.heap (new_box w _) (fun e=>by omega)
 have F1:Hid (Fr (fun k=>k=R) w w1):=((Fr.refl (fun k=>k=R) w).alloc _).trans hF (fun k e=>Or.inl e)
 have N1:Hid (∀ t r,ts=t::r→RdAt m w1 R sz r):=hN
 clear hF hN CB
 go_upto_region 2 with fail
 refine wp_world ?_
 intro W2 hW2
 have X2:Hid (W2.heap[w.heap.size]? =some (.cells #[.int .i64 0,.string ⟨#[]⟩,.int .i64 0,.slice none 0 0,.slice none 0 0,.int .i64 0,.int .i64 0,.bool false,.slice none 0 0,.slice none 0 0] 29 (0,0))):=by rw [hW2];exact ((Fr.refl (fun k=>k=R) w1).alloc _).heap X1.out (fun e=>by omega)
 have V2:Hid (W2.heap[w1.heap.size]? =some (.cells #[.int .i64 tk,.int .i64 ta,.string tx,.int .i64 vk,.int .i64 vn,.int .i64 vd,.string vs] 58 (0,0))):=by rw [hW2];exact new_box w1 _
 have F2:Hid (Fr (fun k=>k=R) w W2):=by rw [hW2];exact F1.out.alloc _
 have A2:Hid (∀ t r,ts=t::r→RdAt m W2 R sz r):=fun t r e=>by rw [hW2];exact (N1.out t r e).below ((Below.refl w1.heap.size w1).alloc (Nat.le_refl _) _)
 have zz:w1.heap.size<W2.heap.size:=by rw [hW2];simp
 clear hW2 F1 N1 X1
 generalize w1.heap.size=n1 at*
 obtain ⟨v0,v1,v2,v3,v4,v5,v6⟩:=bx7 V2.out
 obtain ⟨r0,r1,r2,r3,r4,r5,r6,r7,r8,r9⟩:=bx10 X2.out
 obtain ⟨q0,q1,q2,q3,q4,q5,q6,q7,q8,q9⟩:=bz10 X2.out
 go_wp2
 generalize hW9:World.setCell _ _ _=W9
 have X9:W9.heap[w.heap.size]? =some (.cells #[.int .i64 1,.string ⟨#[]⟩,.int .i64 0,.slice none 0 0,.slice none 0 0,.int .i64 0,.int .i64 0,.bool false,.slice none 0 0,.slice none 0 0] 29 (0,0)):=by rw [← hW9];exact put10 X2.out
 have F9:Fr (fun k=>k=R) w W9:=by rw [← hW9];exact frp10 F2.out (Or.inr (Nat.le_refl _)) _ _ _ _ _ _ _ _ _ _
 have G9:Fr (fun k=>k=w.heap.size) W2 W9:=by rw [← hW9];exact frp10 (Fr.refl (fun k=>k=w.heap.size) W2) (Or.inl rfl) _ _ _ _ _ _ _ _ _ _
 clear hW9
 obtain ⟨x0,x1,x2,x3,x4,x5,x6,x7,x8,x9⟩:=bx10 X9
 refine bodyPost_ret (by simp [results,Tryz.results31,go_sem,x0,x1,x2,x3,x4,x5,x6,x7,x8,x9];try rfl) rfl ?_
 exact ⟨_,rfl,⟨_,rfl,own_none _ _ _ rfl rfl rfl rfl⟩,(A2.out _ _ hT).fr G9 (fun k e=>by omega),F9⟩
theorem formula_false (m R sz:Nat) (ts:List (Tok Val)) (d:Int) (w:World) (h:RdAt m w R sz ts) (hd:¬ (24<d∧(tkH sz ts).k≠0)) (hx:(tkH sz ts).x=[102,97,108,115,101]) (t0:Tok Val) (u:List (Tok Val)) (hT:ts=t0::u):Calls Tryz.prog 31 #[.pointer (some ⟨R,0,none⟩),.int .i64 d] w (RdO m R sz w (FmV w) (.ok (fmK 2) u)):=by
 have CB:Hid (∀ W:World,Below w.heap.size w W→Calls Tryz.prog 74 #[.pointer (some ⟨R,0,none⟩),.int .i64 d] W (NxO m R sz ts W (.agg #[.int .i64 (tkH sz ts).k,.int .i64 (tkH sz ts).at_,.string (txB (tkH sz ts)),.int .i64 (tkH sz ts).v.k,.int .i64 (tkH sz ts).v.n,.int .i64 (tkH sz ts).v.d,.string (tkH sz ts).v.s]))):=fun W hW=>begin_any m R sz ts d W (h.below hW) hd
 have hlt:=h.lt
 have hn0:((txB (tkH sz ts)).toList==[116,114,117,101])=false:=by rw [beq_data];exact decide_eq_false (fun e=>by have e2:(tkH sz ts).x=[116,114,117,101]:=e;rw [hx] at e2;revert e2;decide)
 have hx2:((txB (tkH sz ts)).toList==[102,97,108,115,101])=true:=by rw [beq_data];exact decide_eq_true hx
 generalize (tkH sz ts).k=tk at*
 generalize (tkH sz ts).at_=ta at*
 generalize txB (tkH sz ts)=tx at*
 generalize (tkH sz ts).v.k=vk at*
 generalize (tkH sz ts).v.n=vn at*
 generalize (tkH sz ts).v.d=vd at*
 generalize (tkH sz ts).v.s=vs at*
 go_enter Tryz.func31,Tryz.ntmps31
 go_wp2_with fail
 refine (CB.out _ (by go_grown)).mono ?_
 rintro e w1 ⟨rfl,hF,hN⟩
 have z1:w.heap.size<w1.heap.size:=by have:=hF.size;simp at this;omega
 have X1:Hid (w1.heap[w.heap.size]? =some (.cells #[.int .i64 0,.string ⟨#[]⟩,.int .i64 0,.slice none 0 0,.slice none 0 0,.int .i64 0,.int .i64 0,.bool false,.slice none 0 0,.slice none 0 0] 29 (0,0))):=hF.heap (new_box w _) (fun e=>by omega)
 have F1:Hid (Fr (fun k=>k=R) w w1):=((Fr.refl (fun k=>k=R) w).alloc _).trans hF (fun k e=>Or.inl e)
 have N1:Hid (∀ t r,ts=t::r→RdAt m w1 R sz r):=hN
 clear hF hN CB
 go_upto_region 2 with fail
 refine wp_world ?_
 intro W2 hW2
 have X2:Hid (W2.heap[w.heap.size]? =some (.cells #[.int .i64 0,.string ⟨#[]⟩,.int .i64 0,.slice none 0 0,.slice none 0 0,.int .i64 0,.int .i64 0,.bool false,.slice none 0 0,.slice none 0 0] 29 (0,0))):=by rw [hW2];exact ((Fr.refl (fun k=>k=R) w1).alloc _).heap X1.out (fun e=>by omega)
 have V2:Hid (W2.heap[w1.heap.size]? =some (.cells #[.int .i64 tk,.int .i64 ta,.string tx,.int .i64 vk,.int .i64 vn,.int .i64 vd,.string vs] 58 (0,0))):=by rw [hW2];exact new_box w1 _
 have F2:Hid (Fr (fun k=>k=R) w W2):=by rw [hW2];exact F1.out.alloc _
 have A2:Hid (∀ t r,ts=t::r→RdAt m W2 R sz r):=fun t r e=>by rw [hW2];exact (N1.out t r e).below ((Below.refl w1.heap.size w1).alloc (Nat.le_refl _) _)
 have zz:w1.heap.size<W2.heap.size:=by rw [hW2];simp
 clear hW2 F1 N1 X1
 generalize w1.heap.size=n1 at*
 obtain ⟨v0,v1,v2,v3,v4,v5,v6⟩:=bx7 V2.out
 obtain ⟨r0,r1,r2,r3,r4,r5,r6,r7,r8,r9⟩:=bx10 X2.out
 obtain ⟨q0,q1,q2,q3,q4,q5,q6,q7,q8,q9⟩:=bz10 X2.out
 go_wp2
 generalize hW9:World.setCell _ _ _=W9
 have X9:W9.heap[w.heap.size]? =some (.cells #[.int .i64 2,.string ⟨#[]⟩,.int .i64 0,.slice none 0 0,.slice none 0 0,.int .i64 0,.int .i64 0,.bool false,.slice none 0 0,.slice none 0 0] 29 (0,0)):=by rw [← hW9];exact put10 X2.out
 have F9:Fr (fun k=>k=R) w W9:=by rw [← hW9];exact frp10 F2.out (Or.inr (Nat.le_refl _)) _ _ _ _ _ _ _ _ _ _
 have G9:Fr (fun k=>k=w.heap.size) W2 W9:=by rw [← hW9];exact frp10 (Fr.refl (fun k=>k=w.heap.size) W2) (Or.inl rfl) _ _ _ _ _ _ _ _ _ _
 clear hW9
 obtain ⟨x0,x1,x2,x3,x4,x5,x6,x7,x8,x9⟩:=bx10 X9
 refine bodyPost_ret (by simp [results,Tryz.results31,go_sem,x0,x1,x2,x3,x4,x5,x6,x7,x8,x9];try rfl) rfl ?_
 exact ⟨_,rfl,⟨_,rfl,own_none _ _ _ rfl rfl rfl rfl⟩,(A2.out _ _ hT).fr G9 (fun k e=>by omega),F9⟩
theorem formula_none (m R sz:Nat) (ts:List (Tok Val)) (d:Int) (w:World) (h:RdAt m w R sz ts) (hd:¬ (24<d∧(tkH sz ts).k≠0)) (hx1:(tkH sz ts).x≠[116,114,117,101]) (hx2:(tkH sz ts).x≠[102,97,108,115,101]) (hx3:(tkH sz ts).x≠[40]):Calls Tryz.prog 31 #[.pointer (some ⟨R,0,none⟩),.int .i64 d] w (RdO m R sz w (FmV w) (.bad 70 (tkH sz ts).at_)):=by
 have CB:Hid (∀ W:World,Below w.heap.size w W→Calls Tryz.prog 74 #[.pointer (some ⟨R,0,none⟩),.int .i64 d] W (NxO m R sz ts W (.agg #[.int .i64 (tkH sz ts).k,.int .i64 (tkH sz ts).at_,.string (txB (tkH sz ts)),.int .i64 (tkH sz ts).v.k,.int .i64 (tkH sz ts).v.n,.int .i64 (tkH sz ts).v.d,.string (tkH sz ts).v.s]))):=fun W hW=>begin_any m R sz ts d W (h.below hW) hd
 have hlt:=h.lt
 have hn0:((txB (tkH sz ts)).toList==[116,114,117,101])=false:=by rw [beq_data];exact decide_eq_false hx1
 have hn1:((txB (tkH sz ts)).toList==[102,97,108,115,101])=false:=by rw [beq_data];exact decide_eq_false hx2
 have hn2:((txB (tkH sz ts)).toList==[40])=false:=by rw [beq_data];exact decide_eq_false hx3
 generalize (tkH sz ts).k=tk at*
 generalize (tkH sz ts).at_=ta at*
 generalize txB (tkH sz ts)=tx at*
 generalize (tkH sz ts).v.k=vk at*
 generalize (tkH sz ts).v.n=vn at*
 generalize (tkH sz ts).v.d=vd at*
 generalize (tkH sz ts).v.s=vs at*
 go_enter Tryz.func31,Tryz.ntmps31
 go_wp2_with fail
 refine (CB.out _ (by go_grown)).mono ?_
 rintro e w1 ⟨rfl,hF,hN⟩
 have z1:w.heap.size<w1.heap.size:=by have:=hF.size;simp at this;omega
 have X1:Hid (w1.heap[w.heap.size]? =some (.cells #[.int .i64 0,.string ⟨#[]⟩,.int .i64 0,.slice none 0 0,.slice none 0 0,.int .i64 0,.int .i64 0,.bool false,.slice none 0 0,.slice none 0 0] 29 (0,0))):=hF.heap (new_box w _) (fun e=>by omega)
 have F1:Hid (Fr (fun k=>k=R) w w1):=((Fr.refl (fun k=>k=R) w).alloc _).trans hF (fun k e=>Or.inl e)
 have N1:Hid (∀ t r,ts=t::r→RdAt m w1 R sz r):=hN
 clear hF hN CB
 go_upto_region 2 with fail
 refine wp_world ?_
 intro W2 hW2
 have X2:Hid (W2.heap[w.heap.size]? =some (.cells #[.int .i64 0,.string ⟨#[]⟩,.int .i64 0,.slice none 0 0,.slice none 0 0,.int .i64 0,.int .i64 0,.bool false,.slice none 0 0,.slice none 0 0] 29 (0,0))):=by rw [hW2];exact ((Fr.refl (fun k=>k=R) w1).alloc _).heap X1.out (fun e=>by omega)
 have V2:Hid (W2.heap[w1.heap.size]? =some (.cells #[.int .i64 tk,.int .i64 ta,.string tx,.int .i64 vk,.int .i64 vn,.int .i64 vd,.string vs] 58 (0,0))):=by rw [hW2];exact new_box w1 _
 have F2:Hid (Fr (fun k=>k=R) w W2):=by rw [hW2];exact F1.out.alloc _
 have A2:Hid (∀ t r,ts=t::r→RdAt m W2 R sz r):=fun t r e=>by rw [hW2];exact (N1.out t r e).below ((Below.refl w1.heap.size w1).alloc (Nat.le_refl _) _)
 have zz:w1.heap.size<W2.heap.size:=by rw [hW2];simp
 clear hW2 F1 N1 X1
 generalize w1.heap.size=n1 at*
 obtain ⟨v0,v1,v2,v3,v4,v5,v6⟩:=bx7 V2.out
 go_wp2_with fail
 refine (misplaced_at _ _ _ _ _ _ _ _).mono ?_
 rintro e w3 ⟨rfl,hb3⟩
 have F4:Fr (fun k=>k=R) w w3:=F2.out.trans (Fr.of_below (P:=fun _=>False) hb3) (fun _ q=>q.elim)
 clear hb3
 go_wp2
 exact ⟨rfl,rfl,F4⟩
theorem formula_open (m R sz:Nat) (ts:List (Tok Val)) (d:Int) (w:World) (h:RdAt m w R sz ts) (ph:List (Tok Val)→Rd Fm) (hd:¬ (24<d∧(tkH sz ts).k≠0)) (hd0:0≤d) (hd1:d≤1000) (hx1:(tkH sz ts).x≠[116,114,117,101]) (hx2:(tkH sz ts).x≠[102,97,108,115,101]) (hx3:(tkH sz ts).x=[40]) (t0:Tok Val) (u:List (Tok Val)) (hT:ts=t0::u) (HH:∀ W:World,RdAt m W R sz u→Calls Tryz.prog 75 #[.pointer (some ⟨R,0,none⟩),.int .i64 (d+1)] W (RdO m R sz W (FmV W) (ph u))):Calls Tryz.prog 31 #[.pointer (some ⟨R,0,none⟩),.int .i64 d] w (RdO m R sz w (FmV w) (pF2 sz ph u)):=by
 have CB:Hid (∀ W:World,Below w.heap.size w W→Calls Tryz.prog 74 #[.pointer (some ⟨R,0,none⟩),.int .i64 d] W (NxO m R sz ts W (.agg #[.int .i64 (tkH sz ts).k,.int .i64 (tkH sz ts).at_,.string (txB (tkH sz ts)),.int .i64 (tkH sz ts).v.k,.int .i64 (tkH sz ts).v.n,.int .i64 (tkH sz ts).v.d,.string (tkH sz ts).v.s]))):=fun W hW=>begin_any m R sz ts d W (h.below hW) hd
 have hlt:=h.lt
 have hdd:IntKind.i64.wrap (d+1)=d+1:=by rw [IntKind.wrap_i64];omega
 have hn0:((txB (tkH sz ts)).toList==[116,114,117,101])=false:=by rw [beq_data];exact decide_eq_false hx1
 have hn1:((txB (tkH sz ts)).toList==[102,97,108,115,101])=false:=by rw [beq_data];exact decide_eq_false hx2
 have hn2:((txB (tkH sz ts)).toList==[40])=true:=by rw [beq_data];exact decide_eq_true hx3
 have CH:Hid (∀ W:World,RdAt m W R sz u→Calls Tryz.prog 75 #[.pointer (some ⟨R,0,none⟩),.int .i64 (d+1)] W (RdO m R sz W (FmV W) (ph u))):=HH
 have CX:Hid (∀ (rr:List (Tok Val)) (W:World),RdAt m W R sz rr→Calls Tryz.prog 76 #[.pointer (some ⟨R,0,none⟩),.string ⟨#[41]⟩] W (RdO m R sz W (fun _ _ _=>True) (rExp sz [41] rr))):=fun rr W hW=>expect_any m R sz rr ⟨#[41]⟩ (by decide) W hW
 obtain ⟨RS,hRS⟩:∃ x:Rd Fm,Hid (pF2 sz ph u=x):=⟨_,rfl⟩
 rw [hRS.out]
 clear HH hx1 hx2 hx3
 generalize (tkH sz ts).k=tk at*
 generalize (tkH sz ts).at_=ta at*
 generalize txB (tkH sz ts)=tx at*
 generalize (tkH sz ts).v.k=vk at*
 generalize (tkH sz ts).v.n=vn at*
 generalize (tkH sz ts).v.d=vd at*
 generalize (tkH sz ts).v.s=vs at*
 go_enter Tryz.func31,Tryz.ntmps31
 go_wp2_with fail
 refine (CB.out _ (by go_grown)).mono ?_
 rintro e w1 ⟨rfl,hF,hN⟩
 have z1:w.heap.size<w1.heap.size:=by have:=hF.size;simp at this;omega
 have X1:Hid (w1.heap[w.heap.size]? =some (.cells #[.int .i64 0,.string ⟨#[]⟩,.int .i64 0,.slice none 0 0,.slice none 0 0,.int .i64 0,.int .i64 0,.bool false,.slice none 0 0,.slice none 0 0] 29 (0,0))):=hF.heap (new_box w _) (fun e=>by omega)
 have F1:Hid (Fr (fun k=>k=R) w w1):=((Fr.refl (fun k=>k=R) w).alloc _).trans hF (fun k e=>Or.inl e)
 have N1:Hid (∀ t r,ts=t::r→RdAt m w1 R sz r):=hN
 clear hF hN CB
 go_upto_region 2 with fail
 refine wp_world ?_
 intro W2 hW2
 have X2:Hid (W2.heap[w.heap.size]? =some (.cells #[.int .i64 0,.string ⟨#[]⟩,.int .i64 0,.slice none 0 0,.slice none 0 0,.int .i64 0,.int .i64 0,.bool false,.slice none 0 0,.slice none 0 0] 29 (0,0))):=by rw [hW2];exact ((Fr.refl (fun k=>k=R) w1).alloc _).heap X1.out (fun e=>by omega)
 have V2:Hid (W2.heap[w1.heap.size]? =some (.cells #[.int .i64 tk,.int .i64 ta,.string tx,.int .i64 vk,.int .i64 vn,.int .i64 vd,.string vs] 58 (0,0))):=by rw [hW2];exact new_box w1 _
 have F2:Hid (Fr (fun k=>k=R) w W2):=by rw [hW2];exact F1.out.alloc _
 have A2:Hid (∀ t r,ts=t::r→RdAt m W2 R sz r):=fun t r e=>by rw [hW2];exact (N1.out t r e).below ((Below.refl w1.heap.size w1).alloc (Nat.le_refl _) _)
 have zz:w1.heap.size<W2.heap.size:=by rw [hW2];simp
 clear hW2 F1 N1 X1
 generalize w1.heap.size=n1 at*
 obtain ⟨v0,v1,v2,v3,v4,v5,v6⟩:=bx7 V2.out
 have A3:Hid (RdAt m W2 R sz u):=A2.out _ _ hT
 clear A2
 have CH2:Hid (Calls Tryz.prog 75 #[.pointer (some ⟨R,0,none⟩),.int .i64 (d+1)] W2 (RdO m R sz W2 (FmV W2) (ph u))):=CH.out W2 A3.out
 cases hP:ph u with
 | bad er a=>
  rw [hP] at CH2
  have hG:Hid (RS=.bad er a):=by
   show _=_
   rw [← hRS.out,pF2,hP,Rd.bind_bad]
  go_wp2_with fail
  refine CH2.out.mono ?_
  rintro e w3 ⟨rfl,hF3⟩
  refine ⟨rfl, ?_⟩
  rw [hG.out]
  exact ⟨rfl,F2.out.trans hF3 (fun k e=>Or.inl e)⟩
 | ok ff r3=>
  rw [hP] at CH2
  go_wp2_with fail
  refine CH2.out.mono ?_
  rintro e w3 ⟨v3,rfl,⟨q3,rfl,hQ3⟩,hA3,hF3⟩
  have HQ:Hid (QOwn (fun q=>W2.heap.size≤q) w3 (ff,q3)):=hQ3
  obtain ⟨uv,ut,us,ur⟩:=q3
  obtain ⟨k1,k2,k3,k4⟩:=hQ3.at
  dsimp only at k1 k2 k3 k4
  obtain ⟨-,qv,dv,rfl, -⟩:=k1
  obtain ⟨qt,dt,rfl, -⟩:=k2.form
  obtain ⟨qs,ds,rfl, -⟩:=k3.form
  obtain ⟨qr,dr,rfl, -⟩:=k4.form
  clear k2 k3 k4 hQ3
  have F3:Hid (Fr (fun k=>k=R) w w3):=F2.out.trans hF3 (fun k e=>Or.inl e)
  have X3:Hid (w3.heap[w.heap.size]? =_):=hF3.heap X2.out (fun e=>by omega)
  have A4:Hid (RdAt m w3 R sz r3):=hA3
  have z3:W2.heap.size≤w3.heap.size:=hF3.size
  clear hF3 hA3 CH2 CH X2 F2 V2 A3 v0 v1 v2 v3 v4 v5 v6
  have HFM:Hid (ff=ff):=rfl
  obtain ⟨fk,efk⟩:∃ x,Hid (ff.k=x):=⟨_,rfl⟩
  obtain ⟨fnm,efn⟩:∃ x,Hid (ff.nm=x):=⟨_,rfl⟩
  obtain ⟨fop,efo⟩:∃ x,Hid (ff.op=x):=⟨_,rfl⟩
  obtain ⟨flo,efl⟩:∃ x,Hid (ff.lo=x):=⟨_,rfl⟩
  obtain ⟨fhi,efh⟩:∃ x,Hid (ff.hi=x):=⟨_,rfl⟩
  obtain ⟨fop2,efp⟩:∃ x,Hid (ff.opn=x):=⟨_,rfl⟩
  obtain ⟨nv,env⟩:∃ x,Hid (ff.vars.length=x):=⟨_,rfl⟩
  obtain ⟨nt,ent⟩:∃ x,Hid (ff.terms.length=x):=⟨_,rfl⟩
  obtain ⟨ns,ens⟩:∃ x,Hid (ff.subs.length=x):=⟨_,rfl⟩
  obtain ⟨nr,enr⟩:∃ x,Hid (ff.rgx.length=x):=⟨_,rfl⟩
  rw [efk.out,efn.out,efo.out,efl.out,efh.out,efp.out,env.out,ent.out,ens.out,enr.out]
  rw [env.out,ent.out,ens.out,enr.out] at HQ
  go_upto_region 9 with fail
  refine wp_world ?_
  intro W4 hW4
  have X4:Hid (W4.heap[w.heap.size]? =some (.cells #[.int .i64 0,.string ⟨#[]⟩,.int .i64 0,.slice none 0 0,.slice none 0 0,.int .i64 0,.int .i64 0,.bool false,.slice none 0 0,.slice none 0 0] 29 (0,0))):=by rw [hW4];exact ((Fr.refl (fun k=>k=R) w3).alloc _).heap X3.out (fun e=>by omega)
  have Y4:Hid (W4.heap[w3.heap.size]? =some (.cells #[.int .i64 fk,.string fnm,.int .i64 fop,.slice qv nv dv,.slice qt nt dt,.int .i64 flo,.int .i64 fhi,.bool fop2,.slice qs ns ds,.slice qr nr dr] 29 (0,0))):=by rw [hW4];exact new_box w3 _
  have F4:Hid (Fr (fun k=>k=R) w W4):=by rw [hW4];exact F3.out.alloc _
  have A5:Hid (RdAt m W4 R sz r3):=by rw [hW4];exact A4.out.below ((Below.refl w3.heap.size w3).alloc (Nat.le_refl _) _)
  have Q4:Hid (QOwn (fun q=>W2.heap.size≤q∧q<w3.heap.size) W4 (ff,(⟨.slice qv nv dv,.slice qt nt dt,.slice qs ns ds,.slice qr nr dr⟩:FQ))):=by rw [hW4];exact (HQ.out.mono (P':=fun q=>W2.heap.size≤q∧q<w3.heap.size) (fun q h1 h2=>⟨h1,h2⟩)).keep (fun q hq hlt=>Below.heap_alloc _ _ q hq.2)
  have z4:w3.heap.size<W4.heap.size:=by rw [hW4];simp
  clear hW4 X3 F3 A4 HQ
  generalize w3.heap.size=n3 at*
  have CX4:Hid (Calls Tryz.prog 76 #[.pointer (some ⟨R,0,none⟩),.string ⟨#[41]⟩] W4 (RdO m R sz W4 (fun _ _ _=>True) (rExp sz [41] r3))):=CX.out r3 W4 A5.out
  cases hX:rExp sz [41] r3 with
  | bad er a=>
   rw [hX] at CX4
   have hG:Hid (RS=.bad er a):=by
    show _=_
    rw [← hRS.out,pF2,hP,Rd.bind_ok,hX,Rd.bind_bad]
   go_wp2_with fail
   refine CX4.out.mono ?_
   rintro e w5 ⟨rfl,hF5⟩
   refine ⟨rfl, ?_⟩
   rw [hG.out]
   exact ⟨rfl,F4.out.trans hF5 (fun k e=>Or.inl e)⟩
  | ok uu r4=>
   rw [hX] at CX4
   have hG:Hid (RS=.ok ff r4):=by
    show _=_
    rw [← hRS.out,pF2,hP,Rd.bind_ok,hX,Rd.bind_ok]
   clear hRS hP hX
   go_wp2_with fail
   refine CX4.out.mono ?_
   rintro e w5 ⟨v5,rfl, -,hA5,hF5⟩
   have F5:Hid (Fr (fun k=>k=R) w w5):=F4.out.trans hF5 (fun k e=>Or.inl e)
   have X5:Hid (w5.heap[w.heap.size]? =_):=hF5.heap X4.out (fun e=>by omega)
   have Y5:Hid (w5.heap[n3]? =_):=hF5.heap Y4.out (fun e=>by omega)
   have Q5:Hid (QOwn (fun q=>W2.heap.size≤q∧q<n3) w5 (ff,(⟨.slice qv nv dv,.slice qt nt dt,.slice qs ns ds,.slice qr nr dr⟩:FQ))):=Q4.out.keep (fun q hq hlt=>hF5.block q hlt (fun e=>by omega))
   have A6:Hid (RdAt m w5 R sz r4):=hA5
   clear hF5 hA5 CX4 CX F4 X4 Y4 Q4 A5
   obtain ⟨y0,y1,y2,y3,y4,y5,y6,y7,y8,y9⟩:=bx10 Y5.out
   obtain ⟨r0,r1,r2,r3,r4,r5,r6,r7,r8,r9⟩:=bx10 X5.out
   obtain ⟨q0,q1,q2,q3,q4,q5,q6,q7,q8,q9⟩:=bz10 X5.out
   go_wp2
   generalize hW9:World.setCell _ _ _=W9
   have X9:W9.heap[w.heap.size]? =some (.cells #[.int .i64 fk,.string fnm,.int .i64 fop,.slice qv nv dv,.slice qt nt dt,.int .i64 flo,.int .i64 fhi,.bool fop2,.slice qs ns ds,.slice qr nr dr] 29 (0,0)):=by rw [← hW9];exact put10 X5.out
   have F9:Fr (fun k=>k=R) w W9:=by rw [← hW9];exact frp10 F5.out (Or.inr (Nat.le_refl _)) _ _ _ _ _ _ _ _ _ _
   have G9:Fr (fun k=>k=w.heap.size) w5 W9:=by rw [← hW9];exact frp10 (Fr.refl (fun k=>k=w.heap.size) w5) (Or.inl rfl) _ _ _ _ _ _ _ _ _ _
   clear hW9
   obtain ⟨x0,x1,x2,x3,x4,x5,x6,x7,x8,x9⟩:=bx10 X9
   refine bodyPost_ret (by simp [results,Tryz.results31,go_sem,x0,x1,x2,x3,x4,x5,x6,x7,x8,x9];try rfl) rfl ?_
   rw [hG.out]
   have Q9:QOwn (fun q=>w.heap.size≤q) W9 (ff,(⟨.slice qv nv dv,.slice qt nt dt,.slice qs ns ds,.slice qr nr dr⟩:FQ)):=(Q5.out.keep (w':=W9) (fun q hq hlt=>G9.block q hlt (fun e=>by omega))).mono (fun q hq _=>by omega)
   refine ⟨_,rfl,⟨(⟨.slice qv nv dv,.slice qt nt dt,.slice qs ns ds,.slice qr nr dr⟩:FQ), ?_,Q9⟩,A6.out.fr G9 (fun k e=>by omega),F9⟩
   rw [efk.out,efn.out,efo.out,efl.out,efh.out,efp.out]
end Go.Proofs.YticnfeolbfmgfaaGreatDoor
