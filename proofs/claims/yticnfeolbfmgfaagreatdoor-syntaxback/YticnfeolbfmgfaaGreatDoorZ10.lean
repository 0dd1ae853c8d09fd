/- What the claims of this seat share: mid. -/
import Derived.Test.YticnfeolbfmgfaaGreatDoorZ09
import Derived.Deep.QuietTactic
import Derived.Deep.RegionHeld3
set_option maxRecDepth 100000
set_option maxHeartbeats 8000000
namespace Go.Proofs.YticnfeolbfmgfaaGreatDoor
theorem gc_dvd_right (a b:Int) (hb:0≤b):gc a b∣b:=by
 unfold gc
 have h:=Int.natCast_dvd_natCast.2 (Nat.gcd_dvd_right a.toNat b.toNat)
 have e:((b.toNat:Nat):Int)=b:=by omega
 rwa [e] at h
end Go.Proofs.YticnfeolbfmgfaaGreatDoor
namespace Go.Proofs.YticnfeolbfmgfaaGreatDoor
open Go.RowKit Go.Shelf
theorem may_of {n d:Int} (h:mayB n d=true):0<d∧Nat.Coprime n.natAbs d.toNat:=by
 unfold mayB oE oN oD at h
 by_cases hd:d=0
 ·simp [hd] at h
 ·simp only [hd,if_false,Bool.and_eq_true,beq_iff_eq] at h
  obtain ⟨h1,h2,h3⟩:=h
  have hs:0<sz d:=by unfold sz;omega
  have hg:=gc_pos (sz (ofP n d)) (sz d) hs
  have hdv:=gc_dvd_right (sz (ofP n d)) (sz d) (by omega)
  unfold rE outE at h1
  unfold rD outD at h3
  unfold rN outN at h2
  split at h1
  ·rename_i hok
   rw [if_pos hok] at h2 h3
   have hp:0<d:=by
    have:0≤sz d / gc (sz (ofP n d)) (sz d):=Int.ediv_nonneg (by omega) (by omega)
    omega
   have e1:sz d=d:=sz_of_nonneg (by omega)
   have e2:ofP n d=n:=by unfold ofP sg;simp [show ¬ d<0 by omega]
   rw [e1,e2] at h3 hdv hg
   have e3:=Int.ediv_mul_cancel hdv
   rw [h3] at e3
   have e4:gc (sz n) d=1:=by
    have:d*gc (sz n) d=d*1:=by rw [e3,Int.mul_one]
    exact Int.eq_of_mul_eq_mul_left (by omega) this
   refine ⟨hp, ?_⟩
   unfold gc sz at e4
   have:Nat.gcd ((n.natAbs:Int)).toNat d.toNat=1:=by omega
   simpa using this
  ·simp at h1
end Go.Proofs.YticnfeolbfmgfaaGreatDoor
namespace Go.Proofs.YticnfeolbfmgfaaGreatDoor
open Go.RowKit Go.Shelf
set_option linter.unusedVariables false
theorem chk_kind {k n d:Int} {s:ByteArray} (h:chk k n d s=0):k=1∨k=2∨k=3:=by
 by_cases k1:k=1
 ·exact Or.inl k1
 ·by_cases k2:k=2
  ·exact Or.inr (Or.inl k2)
  ·by_cases k3:k=3
   ·exact Or.inr (Or.inr k3)
   ·exfalso
    have e0:chk k n d s=20:=by simp [chk,pureB,k1,k2,k3]
    omega
theorem chk1_of {n d:Int} {s:ByteArray} (h:chk 1 n d s=0):d=0∧s.toList=[]:=by
 simp only [chk,pureB,if_true] at h
 split at h
 ·omega
 ·rename_i g
  simp at g
  exact g
theorem chk2_of {n d:Int} {s:ByteArray} (h:chk 2 n d s=0):mayB n d=true∧s.toList=[]:=by
 simp only [chk,pureB,Int.reduceEq,if_false,if_true] at h
 split at h
 ·omega
 ·rename_i g
  simp at g
  exact g
theorem chk3_of {n d:Int} {s:ByteArray} (h:chk 3 n d s=0):n=0∧d=0:=by
 simp only [chk,pureB,Int.reduceEq,if_false,if_true] at h
 split at h
 ·omega
 ·rename_i g
  simp at g
  exact g
def Val.same (x y:Val):Bool:=sameB x.k x.n x.d x.s y.k y.n y.d y.s
theorem Val.cases {x:Val} (h:x.may=0):(x.k=1∧x.d=0∧x.s.toList=[])∨(x.k=2∧mayB x.n x.d=true∧x.s.toList=[])∨(x.k=3∧x.n=0∧x.d=0):=by
 unfold Val.may at h
 rcases chk_kind h with e | e | e
 ·rw [e] at h;exact Or.inl ⟨e,chk1_of h⟩
 ·rw [e] at h;exact Or.inr (Or.inl ⟨e,chk2_of h⟩)
 ·rw [e] at h;exact Or.inr (Or.inr ⟨e,chk3_of h⟩)
end Go.Proofs.YticnfeolbfmgfaaGreatDoor
namespace Go.Proofs.YticnfeolbfmgfaaGreatDoor
open Go.RowKit LX Go.Shelf
set_option linter.unusedVariables false
def FmAt (w:World) (v:Value) (f:Fm):Prop:=∃ uv ut us ur,v=.agg #[.int .i64 f.k,.string f.nm,.int .i64 f.op,uv,ut,.int .i64 f.lo,.int .i64 f.hi,.bool f.opn,us,ur]∧NmsAt w uv f.vars∧TmsAt w ut f.terms∧FmsAt w us f.subs∧RxsAt w ur f.rgx
end Go.Proofs.YticnfeolbfmgfaaGreatDoor
namespace Go.Proofs.YticnfeolbfmgfaaGreatDoor
open Go.RowKit Go.Shelf
set_option linter.unusedVariables false
theorem dec_ne (u:Nat):Lib.decDigits u≠[]:=by
 rw [Lib.decDigits]
 split<;>simp
theorem pint_itoa {n:Int} (h1: -9223372036854775808≤n) (h2:n≤9223372036854775807):Lib.parseIntB 64 (Lib.itoa n)=.ok n:=by
 have p64:(2:Nat) ^ 64 - 1=18446744073709551615:=by decide
 have p63:(2:Nat) ^ (64 - 1)=9223372036854775808:=by decide
 unfold Lib.itoa
 by_cases hn:n<0
 ·rw [if_pos hn]
  unfold Lib.parseIntB
  simp only []
  have e:((45:UInt8).toNat=45):=rfl
  rw [if_pos (show UInt8.toNat 45=43∨UInt8.toNat 45=45 from Or.inr e)]
  unfold Lib.parseUintB
  rw [if_neg (dec_ne _),p64,pum_dec n.natAbs (by omega),p63]
  simp only []
  rw [if_neg (fun h=>h.1 e),if_neg (by omega),if_pos e]
  congr 1
  omega
 ·rw [if_neg hn]
  obtain ⟨c,r,e⟩:=List.exists_cons_of_ne_nil (dec_ne n.toNat)
  have hd:=dec_digit n.toNat c (by rw [e];simp)
  have hp:=pum_dec n.toNat (by omega)
  rw [e] at hp ⊢
  unfold Lib.parseIntB
  simp only []
  rw [if_neg (by omega)]
  unfold Lib.parseUintB
  rw [if_neg (by simp),p64,hp,p63]
  simp only []
  rw [if_neg (by omega),if_neg (by omega),if_neg (by omega)]
  congr 1
  omega
theorem itoa_no {n:Int} {c:UInt8} (h:c∈Lib.itoa n):c.toNat=45∨(48≤c.toNat∧c.toNat≤57):=by
 unfold Lib.itoa at h
 split at h
 ·rcases List.mem_cons.1 h with h | h
  ·subst h;exact Or.inl rfl
  ·exact Or.inr (dec_digit _ c h)
 ·exact Or.inr (dec_digit _ c h)
theorem itoa_ne (n:Int):Lib.itoa n≠[]:=by
 unfold Lib.itoa
 split
 ·simp
 ·exact dec_ne _
theorem cutL_none:∀ (l:List UInt8),(∀ c∈l,c.toNat≠47)→cutL l=(l,[],false)
 | [],_=>rfl
 | c::r,h=>by
  have ih:=cutL_none r (fun x hx=>h x (by simp [hx]))
  simp [cutL,h c (by simp),ih]
theorem cutL_some:∀ (l r:List UInt8),(∀ c∈l,c.toNat≠47)→cutL (l++47::r)=(l,r,true)
 | [],r,_=>by simp [cutL]
 | c::l,r,h=>by
  have ih:=cutL_some l r (fun x hx=>h x (by simp [hx]))
  simp [cutL,h c (by simp),ih]
theorem pint_of {n:Int} (h1: -9223372036854775808≤n) (h2:n≤9223372036854775807):pint (Lib.itoa n)=(n,true):=by
 unfold pint
 rw [pint_itoa h1 h2]
theorem cutC_some:∀ (l r:List UInt8),(∀ c∈l,c.toNat≠44)→cutC (l++44::r)=(l,r,true)
 | [],r,_=>by simp [cutC]
 | c::l,r,h=>by
  have ih:=cutC_some l r (fun x hx=>h x (by simp [hx]))
  simp [cutC,h c (by simp),ih]
theorem empty_of {s:ByteArray} (h:s.toList=[]):s=⟨#[]⟩:=by
 rw [toList_data] at h
 exact ba_eq h
theorem pure_of {v:Val} (h:v.may=0):pureB v.k v.n v.d v.s=true:=by
 unfold Val.may chk at h
 split at h
 ·omega
 ·rename_i g
  simpa using g
theorem pref_itoa (n:Int) (r:List UInt8):Lib.hasPrefix (Lib.itoa n++r) [34]=false:=by
 obtain ⟨c,q,e⟩:=List.exists_cons_of_ne_nil (itoa_ne n)
 have hc:=itoa_no (n:=n) (c:=c) (by rw [e];simp)
 rw [e]
 simp only [Lib.hasPrefix,List.cons_append,List.isPrefixOf]
 have:(34==c)=false:=by simp;intro g;rw [← g] at hc;revert hc;decide
 simp [this]
theorem itoa_cut (n:Int):∀ c∈Lib.itoa n,c.toNat≠47:=fun c hc=>by have:=itoa_no hc;omega
theorem suff_quote (l:List UInt8):Lib.hasSuffix (l++[34]) [34]=true∧Lib.trimSuffix (l++[34]) [34]=l:=by
 have h1:Lib.hasSuffix (l++[34]) [34]=true:=by
  unfold Lib.hasSuffix
  rw [List.isSuffixOf_iff_suffix]
  exact List.suffix_append _ _
 refine ⟨h1, ?_⟩
 unfold Lib.trimSuffix
 rw [if_pos h1]
 simp
theorem gss_text {v:Val} (h:v.may=0) (f:v.Fits):gss (vtext v.k v.n v.d v.s)=(v,true):=by
 obtain ⟨k,n,dd,s⟩:=v
 rcases Val.cases h with ⟨a,p,q⟩ | ⟨a,p,q⟩ | ⟨a,p,q⟩
 ·dsimp only at a p q ⊢
  subst a p
  rw [empty_of q]
  have e0:vtext 1 n 0 ⟨#[]⟩=Lib.itoa n:=by simp [vtext]
  have e1:=pref_itoa n []
  rw [List.append_nil] at e1
  rw [e0]
  unfold gss
  rw [e1,cutL_none _ (itoa_cut n),pint_of f.n1 f.n2]
  rfl
 ·dsimp only at a p q ⊢
  subst a
  rw [empty_of q]
  have e0:vtext 2 n dd ⟨#[]⟩=Lib.itoa n++47::Lib.itoa dd:=by simp [vtext]
  rw [e0]
  unfold gss
  rw [pref_itoa,cutL_some _ _ (itoa_cut n)]
  simp only [Bool.false_eq_true,if_false,Bool.true_eq_false]
  rw [pint_of f.n1 f.n2,pint_of f.d1 f.d2]
  rfl
 ·dsimp only at a p q ⊢
  subst a p q
  have e0:vtext 3 0 0 s=34::(inside s.data.toList++[34]):=by simp [vtext,quoted]
  rw [e0]
  unfold gss
  have e1:Lib.hasPrefix (34::(inside s.data.toList++[34])) [34]=true:=by simp [Lib.hasPrefix,List.isPrefixOf]
  obtain ⟨e2,e3⟩:=suff_quote (inside s.data.toList)
  rw [e1]
  simp only [if_true,List.drop_succ_cons,List.drop_zero]
  unfold unqS
  rw [e2,e3]
  simp only [if_true]
  rw [unq_inside]
  rfl
theorem prs_text {v:Val} (h:v.may=0) (f:v.Fits):prs (vtext v.k v.n v.d v.s)=(v,0):=by
 have hp:=pure_of h
 unfold Val.may at h
 unfold prs
 rw [gss_text h f]
 dsimp only
 rw [if_pos ⟨rfl,hp,rfl⟩,if_pos h]
end Go.Proofs.YticnfeolbfmgfaaGreatDoor
namespace Go.Proofs.YticnfeolbfmgfaaGreatDoor
open Go.RowKit LX Go.Shelf
set_option linter.unusedVariables false
def Val.text (v:Val):List UInt8:=vtext v.k v.n v.d v.s
def tri (t:Tok Val):Nat×List UInt8×Val:=(t.k,t.x,t.v)
def TK (l:List UInt8) (M:List (Tok Val)):Prop:=∀ p,∃ L,T sdB l p=(L,none)∧L.map tri=M.map tri
theorem TK.nil:TK [] []:=fun p=>⟨[],rfl,rfl⟩
theorem TK.blank {c:UInt8} {l:List UInt8} {M:List (Tok Val)} (hc:blk c=true) (h:TK l M):TK (c::l) M:=fun p=>by
 obtain ⟨L,h1,h2⟩:=h (p+1)
 exact ⟨L,by rw [T_blank sdB l p hc];exact h1,h2⟩
theorem TK.tok {x r:List UInt8} {k:Nat} {v:Val} {M:List (Tok Val)} {q:Nat} (hk:k≠0) (hx:x≠[]) (hh:hd x≠32∧hd x≠10) (hb:beh (x++r)=(k,x.length)) (hs:sdB k x=(v,true)) (h:TK r M):TK (x++r) (⟨k,q,x,v⟩::M):=fun p=>by
 obtain ⟨L,h1,h2⟩:=h (p+x.length)
 have hd1:hd (x++r)=hd x:=by
  cases x with
  | nil=>exact absurd rfl hx
  | cons c t=>rfl
 have ht:(x++r).take x.length=x:=by simp
 have hdr:(x++r).drop x.length=r:=by simp
 have hf:fine sdB (x++r):=⟨by rw [hb];exact hk,by rw [hb];show (sdB k ((x++r).take x.length)).2=true;rw [ht,hs]⟩
 have e:=T_tok' sdB (l:=x++r) p (by cases x<;>simp_all) (by rw [hd1];exact hh.1) (by rw [hd1];exact hh.2) hf
 rw [hb] at e
 have e2:tokAt sdB (x++r) p=⟨k,p,x,v⟩:=by
  unfold tokAt
  rw [hb]
  show (⟨k,p,(x++r).take x.length,(sdB k ((x++r).take x.length)).1⟩:Tok Val)=_
  rw [ht,hs]
 refine ⟨⟨k,p,x,v⟩::L, ?_, ?_⟩
 ·rw [e,e2]
  show ((_:Tok Val)::(T sdB ((x++r).drop x.length) (p+x.length)).1,(T sdB ((x++r).drop x.length) (p+x.length)).2)=_
  rw [hdr,h1]
 ·simp only [List.map_cons,h2]
  rfl
theorem run_all {f:Nat→Bool} {t r:List UInt8} (h:∀ c∈t,f c.toNat=true) (hr:f (hd r)=false):run f (t++r)=t.length:=by
 induction t with
 | nil=>
  cases r with
  | nil=>rfl
  | cons c s=>show (if f c.toNat then _ else 0)=0;rw [if_neg (by have:f c.toNat=false:=hr;rw [this];simp)]
 | cons c t ih=>
  show (if f c.toNat then run f (t++r)+1 else 0)=_
  rw [if_pos (h c (by simp)),ih (fun x hx=>h x (by simp [hx]))]
  rfl
theorem inAll_mem {l:List UInt8} (h:inAll l=true):∀ c∈l,inwN c.toNat=true:=by
 induction l with
 | nil=>simp
 | cons c t ih=>
  unfold inAll at h
  simp only [Bool.and_eq_true] at h
  intro x hx
  rcases List.mem_cons.1 hx with rfl | hx
  ·exact h.1
  ·exact ih h.2 x hx
def Ends (r:List UInt8):Prop:=hd r=0∨hd r=32∨hd r=41∨hd r=10
theorem Ends.inw {r:List UInt8} (h:Ends r):inwN (hd r)=false:=by
 rcases h with h | h | h | h<;>rw [h]<;>rfl
theorem Ends.dig {r:List UInt8} (h:Ends r):digN (hd r)=false:=by
 rcases h with h | h | h | h<;>rw [h]<;>rfl
theorem name_parts {x:List UInt8} (h:nameL x=true):1≤x.length∧x.length≤16∧lowN (hd x)=true∧inAll x=true:=by
 unfold nameL at h
 simp only [Bool.and_eq_true,decide_eq_true_eq] at h
 exact ⟨h.1.1.1.1,h.1.1.1.2,h.1.1.2,h.2⟩
theorem TK.word {x r:List UInt8} {M:List (Tok Val)} {q:Nat} (h1:1≤x.length) (h16:x.length≤16) (hl:lowN (hd x)=true) (ha:inAll x=true) (hr:Ends r) (h:TK r M):TK (x++r) (⟨3,q,x,zeroV⟩::M):=by
 cases x with
 | nil=>simp at h1
 | cons c t=>
  have hl':lowN c.toNat=true:=hl
  have hb:97≤c.toNat∧c.toNat≤122:=by simpa [lowN] using hl'
  refine TK.tok (by decide) (by simp) ⟨by show c.toNat≠32;omega,by show c.toNat≠10;omega⟩ ?_ ?_ h
  ·rw [List.cons_append,beh_cons,if_neg (by omega),if_neg (by omega),if_pos hl']
   rw [run_all (fun x hx=>inAll_mem ha x (by simp [hx])) hr.inw]
   simp
   omega
  ·show (zeroV,decide ((c::t).length≤16))=_
   rw [decide_eq_true h16]
theorem TK.open_ {r:List UInt8} {M:List (Tok Val)} {q:Nat} (h:TK r M):TK (40::r) (⟨1,q,[40],zeroV⟩::M):=TK.tok (x:=[40]) (by decide) (by simp) (by decide) rfl rfl h
theorem TK.close_ {r:List UInt8} {M:List (Tok Val)} {q:Nat} (h:TK r M):TK (41::r) (⟨2,q,[41],zeroV⟩::M):=TK.tok (x:=[41]) (by decide) (by simp) (by decide) rfl rfl h
theorem dig_mem {u:Nat}:∀ c∈Lib.decDigits u,digN c.toNat=true:=fun c hc=>by
 have:=dec_digit u c hc
 simp [digN,this]
theorem numLen_dig {t r:List UInt8} (ht:∀ c∈t,digN c.toNat=true) (hr:digN (hd r)=false) (h47:hd r≠47):numLen (t++r)=t.length:=by
 unfold numLen
 rw [run_all ht hr]
 rw [if_neg (by simp [h47])]
theorem numLen_frac {t u r:List UInt8} (ht:∀ c∈t,digN c.toNat=true) (hu:∀ c∈u,digN c.toNat=true) (h0:u≠[]) (hr:digN (hd r)=false):numLen (t++47::(u++r))=t.length+1+u.length:=by
 have e1:run digN (t++47::(u++r))=t.length:=run_all ht rfl
 have e2:(t++47::(u++r)).drop t.length=47::(u++r):=by simp
 have e3:(t++47::(u++r)).drop (t.length+1)=u++r:=by
  rw [← List.drop_drop,e2]
  rfl
 have e4:digN (hd (u++r))=true:=by
  cases u with
  | nil=>exact absurd rfl h0
  | cons c s=>exact hu c (by simp)
 unfold numLen
 rw [e1,e2,e3,if_pos ⟨rfl,e4⟩,run_all hu hr]
theorem beh_number {c:UInt8} {t:List UInt8} (hc:digN c.toNat=true∨(c.toNat=45∧digN (hd t)=true)):beh (c::t)=(6,1+numLen t):=by
 rw [beh_cons]
 rcases hc with h | ⟨h,h'⟩
 ·have hb:48≤c.toNat∧c.toNat≤57:=by simpa [digN] using h
  rw [if_neg (by omega),if_neg (by omega),if_neg (by simp [lowN];omega),if_pos (by simp [h])]
 ·rw [if_neg (by omega),if_neg (by omega),if_neg (by simp [lowN,h]),if_pos (by simp [h,h'])]
theorem Ends.ne47 {r:List UInt8} (h:Ends r):hd r≠47:=by
 rcases h with h | h | h | h<;>rw [h]<;>decide
theorem hd_app {x r:List UInt8} (h:x≠[]):hd (x++r)=hd x:=by
 cases x with
 | nil=>exact absurd rfl h
 | cons c t=>rfl
theorem dec_hd (u:Nat):digN (hd (Lib.decDigits u))=true:=by
 cases h:Lib.decDigits u with
 | nil=>exact absurd h (dec_ne u)
 | cons c t=>exact dig_mem (u:=u) c (by rw [h];simp)
theorem itoa_hd (n:Int):digN (hd (Lib.itoa n))=true∨hd (Lib.itoa n)=45:=by
 unfold Lib.itoa
 split
 ·exact Or.inr rfl
 ·exact Or.inl (dec_hd _)
theorem beh_itoa {n:Int} {m r:List UInt8} (hm:∀ t:List UInt8,(∀ c∈t,digN c.toNat=true)→numLen (t++(m++r))=t.length+m.length):beh ((Lib.itoa n++m)++r)=(6,(Lib.itoa n++m).length):=by
 unfold Lib.itoa
 split
 ·have e:(45::Lib.decDigits n.natAbs++m)++r=45::(Lib.decDigits n.natAbs++(m++r)):=by simp
  rw [e,beh_number (Or.inr ⟨rfl,by rw [hd_app (dec_ne _)];exact dec_hd _⟩),hm _ dig_mem]
  simp
  omega
 ·cases h:Lib.decDigits n.toNat with
  | nil=>exact absurd h (dec_ne _)
  | cons c t=>
   have hd1:∀ x∈c::t,digN x.toNat=true:=fun x hx=>dig_mem (u:=n.toNat) x (by rw [h];exact hx)
   have e:(c::t++m)++r=c::(t++(m++r)):=by simp
   rw [e,beh_number (Or.inl (hd1 c (by simp))),hm t (fun x hx=>hd1 x (by simp [hx]))]
   simp
   omega
theorem hexd_ne (q:Nat) (h:q<16):(hexd q).toNat≠34∧(hexd q).toNat≠92:=by
 have:q=0∨q=1∨q=2∨q=3∨q=4∨q=5∨q=6∨q=7∨q=8∨q=9∨q=10∨q=11∨q=12∨q=13∨q=14∨q=15:=by omega
 rcases this with rfl | rfl | rfl | rfl | rfl | rfl | rfl | rfl | rfl | rfl | rfl | rfl | rfl | rfl | rfl | rfl<;>decide
theorem qend_stepX {c:UInt8} {m:List UInt8} (h1:c.toNat≠34) (h2:c.toNat≠92):qend false (c::m)=(qend false m).map (·+1):=by
 show (if c.toNat=34 then some 1 else (qend (c.toNat==92) m).map (·+1))=_
 rw [if_neg h1,show (c.toNat==92)=false by simpa using h2]
theorem qend_back {c:UInt8} {m:List UInt8}:qend false (92::c::m)=(qend false m).map (·+2):=by
 show (if (92:UInt8).toNat=34 then some 1 else (qend ((92:UInt8).toNat==92) (c::m)).map (·+1))=_
 rw [if_neg (by decide),show ((92:UInt8).toNat==92)=true by decide]
 show ((qend false m).map (·+1)).map (·+1)=_
 cases qend false m<;>rfl
theorem qend_esc (c:UInt8) (m:List UInt8):qend false (esc c++m)=(qend false m).map (·+(esc c).length):=by
 unfold esc
 split
 ·show qend false (92::c::m)=_
  rw [qend_back]
  rfl
 ·rename_i h
  split
  ·show qend false (c::m)=_
   rw [qend_stepX (fun e=>h (Or.inl e)) (fun e=>h (Or.inr e))]
   rfl
  ·have hc:=c.toNat_lt
   show qend false (92::120::hexd (c.toNat / 16)::hexd (c.toNat % 16)::m)=_
   have k1:=hexd_ne (c.toNat / 16) (by omega)
   have k2:=hexd_ne (c.toNat % 16) (by omega)
   rw [qend_back,qend_stepX k1.1 k1.2,qend_stepX k2.1 k2.2]
   cases qend false m<;>rfl
theorem qend_inside (s r:List UInt8):qend false (inside s++34::r)=some ((inside s).length+1):=by
 induction s with
 | nil=>rfl
 | cons c s ih=>
  have e:inside (c::s)=esc c++inside s:=rfl
  rw [e,List.append_assoc,qend_esc,ih]
  simp
  omega
theorem beh_quoted (s r:List UInt8):beh (quoted s++r)=(6,(quoted s).length):=by
 have e:quoted s++r=34::(inside s++34::r):=by simp [quoted]
 rw [e,beh_cons]
 rw [if_neg (by decide),if_neg (by decide),if_neg (by decide),if_neg (by simp [digN]),if_neg (by simp),if_neg (by decide),if_neg (by decide),if_pos (by decide),qend_inside]
 simp [quoted]
 omega
theorem may_cases {v:Val} (h:v.may=0):(v.k=1)∨(v.k=2∧mayB v.n v.d=true)∨v.k=3:=by
 unfold Val.may chk at h
 by_cases hp:pureB v.k v.n v.d v.s=false
 ·rw [if_pos hp] at h;cases h
 have hp:pureB v.k v.n v.d v.s=true:=by simpa using hp
 unfold pureB at hp
 by_cases h1:v.k=1
 ·exact Or.inl h1
 rw [if_neg h1] at hp
 by_cases h2:v.k=2
 ·rw [if_pos h2] at hp
  simp only [Bool.and_eq_true] at hp
  exact Or.inr (Or.inl ⟨h2,hp.1⟩)
 rw [if_neg h2] at hp
 by_cases h3:v.k=3
 ·exact Or.inr (Or.inr h3)
 ·rw [if_neg h3] at hp;cases hp
theorem text_hd {v:Val} (hm:v.may=0):v.text≠[]∧(digN (hd v.text)=true∨hd v.text=45∨hd v.text=34):=by
 unfold Val.text vtext
 rcases may_cases hm with h | ⟨h,_⟩ | h
 ·rw [if_pos h]
  refine ⟨itoa_ne _, ?_⟩
  rcases itoa_hd v.n with h | h
  ·exact Or.inl h
  ·exact Or.inr (Or.inl h)
 ·rw [if_neg (by omega),if_pos h]
  refine ⟨by simp, ?_⟩
  rw [hd_app (itoa_ne _)]
  rcases itoa_hd v.n with h | h
  ·exact Or.inl h
  ·exact Or.inr (Or.inl h)
 ·rw [if_neg (by omega),if_neg (by omega)]
  exact ⟨by simp [quoted],Or.inr (Or.inr rfl)⟩
theorem text_beh {v:Val} (hm:v.may=0) {r:List UInt8} (hr:Ends r):beh (v.text++r)=(6,v.text.length):=by
 unfold Val.text vtext
 rcases may_cases hm with h | ⟨h,hd2⟩ | h
 ·rw [if_pos h]
  have e:=beh_itoa (n:=v.n) (m:=[]) (r:=r) (fun t ht=>by rw [List.nil_append,numLen_dig ht hr.dig hr.ne47];rfl)
  simpa using e
 ·rw [if_neg (by omega),if_pos h]
  have hp:=(may_of hd2).1
  have hi:Lib.itoa v.d=Lib.decDigits v.d.toNat:=by unfold Lib.itoa;rw [if_neg (by omega)]
  rw [hi]
  refine beh_itoa (n:=v.n) (m:=47::Lib.decDigits v.d.toNat) (r:=r) (fun t ht=> ?_)
  rw [List.cons_append,numLen_frac ht dig_mem (dec_ne _) hr.dig]
  simp
  omega
 ·rw [if_neg (by omega),if_neg (by omega)]
  exact beh_quoted _ _
theorem TK.val {v:Val} {r:List UInt8} {M:List (Tok Val)} {q:Nat} (hm:v.may=0) (f:v.Fits) (hr:Ends r) (h:TK r M):TK (v.text++r) (⟨6,q,v.text,v⟩::M):=by
 obtain ⟨h1,h2⟩:=text_hd hm
 refine TK.tok (by decide) h1 ?_ (text_beh hm hr) ?_ h
 ·rcases h2 with h2 | h2 | h2
  ·have:48≤hd v.text∧hd v.text≤57:=by simpa [digN] using h2
   omega
  ·omega
  ·omega
 ·show ((prs v.text).1,decide ((prs v.text).2=0))=_
  have:=prs_text hm f
  unfold Val.text
  rw [this]
  rfl
def valTk (v:Val):Tok Val:=⟨6,0,v.text,v⟩
section
mutual
def sameT:Tm→Tm→Bool
 | .mk k n v s,t=>(k==t.k) && ((n.toList==t.nm.toList) && (v.same t.v && sameTs s t.subs))
def sameTs:List Tm→List Tm→Bool
 | [],[]=>true
 | [],_::_=>false
 | _::_,[]=>false
 | x::l,y::m=>sameT x y && sameTs l m
end
end
theorem sameT_eq (x y:Tm):sameT x y=((x.k==y.k) && ((x.nm.toList==y.nm.toList) && (x.v.same y.v && sameTs x.subs y.subs))):=by
 cases x
 rw [sameT]
 rfl
theorem sameTs_nil:sameTs [] []=true:=by rw [sameTs]
theorem sameTs_cons (x y:Tm) (l m:List Tm):sameTs (x::l) (y::m)=(sameT x y && sameTs l m):=by rw [sameTs]
theorem sameTs_len:∀ {xs ys:List Tm},xs.length≠ys.length→sameTs xs ys=false
 | [],[],h=>absurd rfl h
 | [],_::_,_=>by rw [sameTs]
 | _::_,[],_=>by rw [sameTs]
 | x::xs,y::ys,h=>by rw [sameTs_cons,sameTs_len (fun e=>h (by simp [e])),Bool.and_false]
section
mutual
def sameF:Fm→Fm→Bool
 | .mk k nm op vars terms lo hi opn subs rgx,f=>(k==f.k) && ((nm.toList==f.nm.toList) && ((op==f.op) && (((lo==f.lo) && ((hi==f.hi) && (opn==f.opn))) && (decide (vars=f.vars) && (sameTs terms f.terms && (sameRs rgx f.rgx && sameFs subs f.subs))))))
def sameFs:List Fm→List Fm→Bool
 | [],[]=>true
 | [],_::_=>false
 | _::_,[]=>false
 | x::l,y::m=>sameF x y && sameFs l m
def sameR:Rx→Rx→Bool
 | .mk k t s,r=>(k==r.k) && (sameFs t r.test && sameRs s r.subs)
def sameRs:List Rx→List Rx→Bool
 | [],[]=>true
 | [],_::_=>false
 | _::_,[]=>false
 | x::l,y::m=>sameR x y && sameRs l m
end
end
theorem sameF_eq (x f:Fm):sameF x f=((x.k==f.k) && ((x.nm.toList==f.nm.toList) && ((x.op==f.op) && (((x.lo==f.lo) && ((x.hi==f.hi) && (x.opn==f.opn))) && (decide (x.vars=f.vars) && (sameTs x.terms f.terms && (sameRs x.rgx f.rgx && sameFs x.subs f.subs))))))):=by
 cases x
 rw [sameF]
 rfl
theorem sameR_eq (x r:Rx):sameR x r=((x.k==r.k) && (sameFs x.test r.test && sameRs x.subs r.subs)):=by
 cases x
 rw [sameR]
 rfl
theorem sameFs_nil:sameFs [] []=true:=by rw [sameFs]
theorem sameFs_cons (x y:Fm) (l m:List Fm):sameFs (x::l) (y::m)=(sameF x y && sameFs l m):=by rw [sameFs]
theorem sameFs_len:∀ {xs ys:List Fm},xs.length≠ys.length→sameFs xs ys=false
 | [],[],h=>absurd rfl h
 | [],_::_,_=>by rw [sameFs]
 | _::_,[],_=>by rw [sameFs]
 | x::xs,y::ys,h=>by rw [sameFs_cons,sameFs_len (fun e=>h (by simp [e])),Bool.and_false]
theorem sameRs_nil:sameRs [] []=true:=by rw [sameRs]
theorem sameRs_cons (x y:Rx) (l m:List Rx):sameRs (x::l) (y::m)=(sameR x y && sameRs l m):=by rw [sameRs]
theorem sameRs_len:∀ {xs ys:List Rx},xs.length≠ys.length→sameRs xs ys=false
 | [],[],h=>absurd rfl h
 | [],_::_,_=>by rw [sameRs]
 | _::_,[],_=>by rw [sameRs]
 | x::xs,y::ys,h=>by rw [sameRs_cons,sameRs_len (fun e=>h (by simp [e])),Bool.and_false]
def opT:Tok Val:=⟨1,0,[40],zeroV⟩
def clT:Tok Val:=⟨2,0,[41],zeroV⟩
def wdT (x:List UInt8):Tok Val:=⟨3,0,x,zeroV⟩
def sgT (x:List UInt8):Tok Val:=⟨4,0,x,zeroV⟩
section
mutual
def tkT:Tm→List (Tok Val)
 | .mk k nm v subs=>if k=1 then [wdT nm.data.toList] else if k=2 then [valTk v] else opT::sgT (hdT k)::(tkTs subs++[clT])
def tkTs:List Tm→List (Tok Val)
 | []=>[]
 | t::l=>tkT t++tkTs l
end
end
def hdTk (k:Int):Tok Val:=if k<7 then sgT (hdF k) else wdT (hdF k)
def wdsT (l:List ByteArray):List (Tok Val):=l.map fun v=>wdT v.data.toList
def tk1 (f:Fm):List (Tok Val):=if f.k=3 then [] else [hdTk f.k]
def tk2 (f:Fm):List (Tok Val):=if (shp f.k).named then [wdT f.nm.data.toList] else []
def tk3 (f:Fm):List (Tok Val):=if (shp f.k).reck then [wdT (hdO f.op)] else []
def tk4 (f:Fm):List (Tok Val):=if (shp f.k).reck then [wdT (f.vars.headD ⟨#[]⟩).data.toList] else []
def tk5 (f:Fm):List (Tok Val):=if (shp f.k).listed then opT::(wdsT (if (shp f.k).reck then f.vars.drop 1 else f.vars)++[clT]) else []
def tk6 (f:Fm):List (Tok Val):=if (shp f.k).timed then [⟨5,0,ivT f.lo f.hi f.opn,zeroV⟩] else []
section
mutual
def tkF:Fm→List (Tok Val)
 | .mk k nm op vars terms lo hi opn subs rgx=>if k=1 then [wdT [116,114,117,101]] else if k=2 then [wdT [102,97,108,115,101]] else
  let f:Fm:=.mk k nm op vars [] lo hi opn [] []
  opT::(tk1 f++(tk2 f++(tk3 f++(tk4 f++(tk5 f++(tk6 f++(tkTs terms++(tkRs rgx++(tkFs subs++[clT])))))))))
def tkFs:List Fm→List (Tok Val)
 | []=>[]
 | f::l=>tkF f++tkFs l
def tkR:Rx→List (Tok Val)
 | .mk k test subs=>if k=1 then [wdT (hdR 1)] else opT::wdT (hdR k)::(tkFs test++(tkRs subs++[clT]))
def tkRs:List Rx→List (Tok Val)
 | []=>[]
 | r::l=>tkR r++tkRs l
end
end
theorem tkT_eq (t:Tm):tkT t=if t.k=1 then [wdT t.nm.data.toList] else if t.k=2 then [valTk t.v] else opT::sgT (hdT t.k)::(tkTs t.subs++[clT]):=by cases t;rw [tkT];rfl
theorem tkF_eq (f:Fm):tkF f=if f.k=1 then [wdT [116,114,117,101]] else if f.k=2 then [wdT [102,97,108,115,101]] else opT::(tk1 f++(tk2 f++(tk3 f++(tk4 f++(tk5 f++(tk6 f++(tkTs f.terms++(tkRs f.rgx++(tkFs f.subs++[clT]))))))))):=by cases f;rw [tkF];rfl
theorem tkR_eq (r:Rx):tkR r=if r.k=1 then [wdT (hdR 1)] else opT::wdT (hdR r.k)::(tkFs r.test++(tkRs r.subs++[clT])):=by cases r;rw [tkR];rfl
theorem tkTs_map:∀ l:List Tm,tkTs l=(l.map tkT).flatten
 | []=>by rw [tkTs];rfl
 | t::l=>by rw [tkTs,tkTs_map l];rfl
theorem tkFs_map:∀ l:List Fm,tkFs l=(l.map tkF).flatten
 | []=>by rw [tkFs];rfl
 | t::l=>by rw [tkFs,tkFs_map l];rfl
theorem tkRs_map:∀ l:List Rx,tkRs l=(l.map tkR).flatten
 | []=>by rw [tkRs];rfl
 | t::l=>by rw [tkRs,tkRs_map l];rfl
def TK1 (x:List UInt8) (a:List (Tok Val)):Prop:=∀ r M,Ends r→TK r M→TK (x++r) (a++M)
def TKL (l:List (List UInt8)) (a:List (Tok Val)):Prop:=∀ r M,Ends r→TK r M→TK (spd l++r) (a++M)∧TK (jn l++r) (a++M)
theorem spd_ends (l:List (List UInt8)) {r:List UInt8} (h:Ends r):Ends (spd l++r):=by
 cases l with
 | nil=>exact h
 | cons x l=>exact Or.inr (Or.inl rfl)
theorem TKL.nil:TKL [] []:=fun r M hr h=>⟨h,h⟩
theorem TKL.cons {x:List UInt8} {a:List (Tok Val)} {l:List (List UInt8)} {b:List (Tok Val)} (h:TK1 x a) (k:TKL l b):TKL (x::l) (a++b):=fun r M hr hM=>by
 have h1:=h (spd l++r) (b++M) (spd_ends l hr) (k r M hr hM).1
 rw [← List.append_assoc] at h1
 constructor
 ·show TK (32::(x++spd l)++r) _
  rw [List.cons_append,List.append_assoc,List.append_assoc] at*
  exact TK.blank rfl h1
 ·rw [jn_cons,List.append_assoc]
  rw [List.append_assoc] at*
  exact h1
theorem TKL.one {x:List UInt8} {a:List (Tok Val)} (h:TK1 x a):TKL [x] a:=by have:=TKL.cons h TKL.nil;rw [List.append_nil] at this;exact this
theorem TKL.app {l m:List (List UInt8)} {a b:List (Tok Val)} (h:TKL l a) (k:TKL m b):TKL (l++m) (a++b):=fun r M hr hM=>by
 have k1:=k r M hr hM
 constructor
 ·rw [spd_app,List.append_assoc,List.append_assoc]
  exact (h (spd m++r) (b++M) (spd_ends m hr) k1.1).1
 ·cases l with
  | nil=>
   have h1:=(h (jn m++r) (b++M))
   rw [List.append_assoc]
   have h0:=(h [] [] (Or.inl rfl) TK.nil).2
   have e:a=[]:=by
    obtain ⟨L,e1,e2⟩:=h0 0
    have e3:(([]:List (Tok Val)),(none:Option _))=(L,none):=e1
    injection e3 with e3
    rw [← e3] at e2
    simpa using e2.symm
   rw [e]
   exact k1.2
  | cons x l=>
   have e:jn (x::l++m)=jn (x::l)++spd m:=by rw [List.cons_append,jn_cons,jn_cons,spd_app,List.append_assoc]
   rw [e,List.append_assoc,List.append_assoc]
   exact (h (spd m++r) (b++M) (spd_ends m hr) k1.1).2
theorem TKL.inb {l:List (List UInt8)} {a:List (Tok Val)} (h:TKL l a):TK1 (brkt l) (opT::(a++[clT])):=fun r M hr hM=>by
 have h1:=(h (41::r) (clT::M) (Or.inr (Or.inr (Or.inl rfl))) (TK.close_ hM)).2
 have e:brkt l++r=40::(jn l++41::r):=by unfold brkt;simp
 rw [e,List.cons_append,List.append_assoc]
 exact TK.open_ h1
theorem TK1.word {x:List UInt8} (h1:1≤x.length) (h16:x.length≤16) (hl:lowN (hd x)=true) (ha:inAll x=true):TK1 x [wdT x]:=fun r M hr hM=>TK.word h1 h16 hl ha hr hM
theorem TK1.name {x:ByteArray} (h:nameB x=true):TK1 x.data.toList [wdT x.data.toList]:=by
 obtain ⟨h1,h2,h3,h4⟩:=name_parts h
 exact TK1.word h1 h2 h3 h4
theorem TK1.val {v:Val} (hm:v.may=0) (f:v.Fits):TK1 v.text [valTk v]:=fun r M hr hM=>TK.val hm f hr hM
theorem TK1.sign {x:List UInt8} (hx:x=[61]∨x=[60]∨x=[60,61]∨x=[43]∨x=[45]∨x=[42]):TK1 x [sgT x]:=fun r M hr hM=>by
 have h61:hd r≠61:=by rcases hr with h | h | h | h<;>rw [h]<;>decide
 have hdg:=hr.dig
 rcases hx with rfl | rfl | rfl | rfl | rfl | rfl
 ·exact TK.tok (x:=[61]) (by decide) (by simp) (by decide) (by show beh (61::r)=_;rw [beh_cons];rfl) rfl hM
 ·exact TK.tok (x:=[60]) (by decide) (by simp) (by decide) (by show beh (60::r)=_;rw [beh_cons,if_neg (by decide),if_neg (by decide),if_neg (by decide),if_neg (by rw [hdg];decide),if_neg (fun q=>h61 q.2)];rfl) rfl hM
 ·exact TK.tok (x:=[60,61]) (by decide) (by simp) (by decide) (by show beh (60::61::r)=_;rw [beh_cons];rfl) rfl hM
 ·exact TK.tok (x:=[43]) (by decide) (by simp) (by decide) (by show beh (43::r)=_;rw [beh_cons];rfl) rfl hM
 ·exact TK.tok (x:=[45]) (by decide) (by simp) (by decide) (by show beh (45::r)=_;rw [beh_cons,if_neg (by decide),if_neg (by decide),if_neg (by decide),if_neg (by rw [hdg];decide),if_neg (fun q=>by exact absurd q.1 (by decide))];rfl) rfl hM
 ·exact TK.tok (x:=[42]) (by decide) (by simp) (by decide) (by show beh (42::r)=_;rw [beh_cons];rfl) rfl hM
theorem numB_itoa {t:Int} (h0:0≤t) (h1:t≤1099511627776):numB (Lib.itoa t)=(⟨1,t,0,⟨#[]⟩⟩,true):=by
 have hv:(⟨1,t,0,⟨#[]⟩⟩:Val).may=0:=by
  unfold Val.may chk pureB
  simp
  decide
 have hp:=prs_text hv ⟨by show -9223372036854775808≤t;omega,by show t≤9223372036854775807;omega,by show (-9223372036854775808:Int)≤0;decide,by show (0:Int)≤9223372036854775807;decide⟩
 have hx:vtext (1:Int) t 0 ⟨#[]⟩=Lib.itoa t:=if_pos rfl
 have hp':prs (Lib.itoa t)=(⟨1,t,0,⟨#[]⟩⟩,0):=by rw [← hx];exact hp
 unfold numB
 rw [hp',if_pos ⟨rfl,rfl,h0,h1⟩]
theorem brk_some {A r:List UInt8} (h:∀ c∈A,c.toNat≠93):brk (A++93::r)=some (A.length+1):=by
 induction A with
 | nil=>rfl
 | cons c A ih=>
  show (if c.toNat=93 then some 1 else (brk (A++93::r)).map (·+1))=_
  rw [if_neg (h c (by simp)),ih (fun x hx=>h x (by simp [hx]))]
  rfl
def ivI (lo hi:Int) (o:Bool):List UInt8:=Lib.itoa lo++44::(if o then [42] else Lib.itoa hi)
theorem ivT_eq (lo hi:Int) (o:Bool):ivT lo hi o=91::(ivI lo hi o++[93]):=by unfold ivT ivI;simp
theorem itoa_dg {n:Int} (h:0≤n):∀ c∈Lib.itoa n,48≤c.toNat∧c.toNat≤57:=by
 have hi:Lib.itoa n=Lib.decDigits n.toNat:=by unfold Lib.itoa;rw [if_neg (by omega)]
 rw [hi]
 exact fun c hc=>dec_digit _ c hc
theorem iv_cut {lo hi:Int} {o:Bool} (h:itvU lo hi o=true):cutC (ivI lo hi o)=(Lib.itoa lo,if o then [42] else Lib.itoa hi,true):=cutC_some _ _ (fun c hc=>by have:=itoa_dg (itvU_facts h).1 c hc;omega)
theorem iv_no93 {lo hi:Int} {o:Bool} (h:itvU lo hi o=true):∀ c∈ivI lo hi o,c.toNat≠93:=by
 obtain ⟨h0,h1,h2,h3⟩:=itvU_facts h
 intro c hc
 unfold ivI at hc
 rcases List.mem_append.1 hc with hc | hc
 ·have:=itoa_dg h0 c hc;omega
 rcases List.mem_cons.1 hc with rfl | hc
 ·decide
 cases o with
 | true=>
  simp at hc
  rw [hc]
  decide
 | false=>
  have:=itoa_dg (n:=hi) (by have:=h3 rfl;omega) c hc
  omega
theorem ivB_ok {lo hi:Int} {o:Bool} (h:itvU lo hi o=true):ivB (ivI lo hi o)=true:=by
 obtain ⟨h0,h1,h2,h3⟩:=itvU_facts h
 unfold ivB
 rw [iv_cut h]
 dsimp only
 rw [numB_itoa h0 h1]
 cases o with
 | true=>rfl
 | false=>
  obtain ⟨h4,h5⟩:=h3 rfl
  show (true && true && (_ || ((numB (Lib.itoa hi)).2 && decide (lo≤(numB (Lib.itoa hi)).1.n))))=true
  rw [numB_itoa (by omega) h5]
  simp
  exact Or.inr h4
theorem iv_mid (lo hi:Int) (o:Bool):((ivT lo hi o).drop 1).take ((ivT lo hi o).length - 2)=ivI lo hi o:=by
 rw [ivT_eq]
 simp
theorem ivOf_iv {lo hi:Int} {o:Bool} (h:itvU lo hi o=true):ivOf (ivT lo hi o)=(lo,hi,o):=by
 obtain ⟨h0,h1,h2,h3⟩:=itvU_facts h
 unfold ivOf
 rw [iv_mid]
 dsimp only
 rw [iv_cut h]
 dsimp only
 rw [numB_itoa h0 h1]
 cases o with
 | true=>
  rw [if_pos rfl,h2 rfl,if_pos rfl]
 | false=>
  obtain ⟨h4,h5⟩:=h3 rfl
  have hne:¬ (if (false:Bool)=true then ([42]:List UInt8) else Lib.itoa hi)=[42]:=by
   rw [if_neg (by simp)]
   intro e
   have:=itoa_dg (n:=hi) (by omega) 42 (by rw [e];simp)
   exact absurd this.1 (by decide)
  rw [if_neg hne]
  show (lo,(numB (Lib.itoa hi)).1.n,false)=_
  rw [numB_itoa (by omega) h5]
theorem TK1.iv {lo hi:Int} {o:Bool} (h:itvU lo hi o=true):TK1 (ivT lo hi o) [⟨5,0,ivT lo hi o,zeroV⟩]:=fun r M hr hM=>by
 refine TK.tok (by decide) (by rw [ivT_eq];simp) (by rw [ivT_eq];exact ⟨fun e=>(by cases e),fun e=>(by cases e)⟩) ?_ ?_ hM
 ·have e:ivT lo hi o++r=91::(ivI lo hi o++93::r):=by rw [ivT_eq];simp
  rw [e,beh_cons,if_neg (by decide),if_neg (by decide),if_neg (by decide),if_neg (fun q=>(by cases q)),if_neg (fun q=>by exact absurd q.1 (by decide)),if_neg (by decide),if_pos (by decide),brk_some (iv_no93 h)]
  show (5,1+((ivI lo hi o).length+1))=_
  rw [ivT_eq]
  simp
  omega
 ·show (zeroV,ivB (((ivT lo hi o).drop 1).take ((ivT lo hi o).length - 2)))=_
  rw [iv_mid,ivB_ok h]
theorem tms_tk:∀ (m:Nat) (ts:List Tm),SizeOf.sizeOf ts≤m→wfTs ts→ftTs ts→TKL (txTs ts) (tkTs ts):=by
 intro m
 induction m with
 | zero=>intro ts hn;cases ts<;>simp at hn
 | succ m ih=>
  intro ts hn hw hf
  cases ts with
  | nil=>rw [txTs,tkTs];exact TKL.nil
  | cons t l=>
   rw [wfTs_cons,wfT_eq] at hw
   rw [ftTs_cons,ftT_eq] at hf
   rw [txTs,tkTs]
   have h0:=Tm.subs_lt t
   simp at hn
   refine TKL.cons ?_ (ih l (by omega) hw.2 hf.2)
   rw [txT_eq,tkT_eq]
   rcases tm_facts hw.1.1 with ⟨h1,h2, -⟩ | ⟨h1,h2, -⟩ | ⟨h1,h2, -⟩
   ·rw [if_pos h1,if_pos h1]
    exact TK1.name h2
   ·rw [if_neg (by omega),if_pos h1,if_neg (by omega),if_pos h1]
    exact TK1.val h2 hf.1.1
   ·rw [if_neg (by omega),if_neg (by omega),if_neg (by omega),if_neg (by omega)]
    have hs:TK1 (hdT t.k) [sgT (hdT t.k)]:=TK1.sign (by rcases h1 with h | h | h<;>rw [h]<;>decide)
    exact (TKL.cons hs (ih t.subs (by omega) hw.1.2 hf.1.2)).inb
theorem head_tk {k:Int} (h1:4≤k) (h2:k≤22):TK1 (hdF k) [hdTk k]:=by
 rcases kinds22 (by omega) h2 with h | h | h | h | h | h | h | h | h | h | h | h | h | h | h | h | h | h | h | h<;>first | omega | (subst h;first | exact TK1.sign (by decide) | exact TK1.word (x:=hdF _) (by decide) (by decide) (by decide) (by decide))
theorem op_tk {k:Int} (h1:1≤k) (h2:k≤6):TK1 (hdO k) [wdT (hdO k)]:=by
 have:k=1∨k=2∨k=3∨k=4∨k=5∨k=6:=by omega
 rcases this with h | h | h | h | h | h<;>subst h<;>exact TK1.word (x:=hdO _) (by decide) (by decide) (by decide) (by decide)
theorem rx_tk {k:Int} (h1:1≤k) (h2:k≤5):TK1 (hdR k) [wdT (hdR k)]:=by
 have:k=1∨k=2∨k=3∨k=4∨k=5:=by omega
 rcases this with h | h | h | h | h<;>subst h<;>exact TK1.word (x:=hdR _) (by decide) (by decide) (by decide) (by decide)
theorem wds_tk:∀ {l:List ByteArray},(∀ s∈l,nameB s=true)→TKL (l.map fun v=>v.data.toList) (wdsT l)
 | [],_=>TKL.nil
 | x::l,h=>TKL.cons (a:=[wdT x.data.toList]) (b:=wdsT l) (TK1.name (h x (by simp))) (wds_tk (fun s hs=>h s (by simp [hs])))
theorem opB_used {op:Int} (h:opB op true=true):1≤op∧op≤6:=by unfold opB at h;simpa using h
theorem opB_un {op:Int} (h:opB op false=true):op=0:=by unfold opB at h;simpa using h
theorem fmH_tk {f:Fm} (h:fmE f=0) (h3:3≤f.k):TKL (fmH f) (tk1 f++(tk2 f++(tk3 f++tk4 f++(tk5 f++tk6 f)))):=by
 obtain ⟨⟨-,h22⟩,hv, -⟩:=fm_forms h
 obtain ⟨p1,p2,p3,p4⟩:=fm_parts h
 obtain ⟨s1,s2,s3,s4,s5, -⟩:=shp_frm h3 h22
 have hall:=namesB_all p1
 have e:fmH f=(if f.k=3 then [] else [hdF f.k])++((if (shp f.k).named then [f.nm.data.toList] else [])++((if (shp f.k).reck then [hdO f.op,(f.vars.headD ⟨#[]⟩).data.toList] else [])++((if (shp f.k).listed then [brkt ((if (shp f.k).reck then f.vars.drop 1 else f.vars).map fun v=>v.data.toList)] else [])++(if (shp f.k).timed then [ivT f.lo f.hi f.opn] else [])))):=by unfold fmH;simp only [List.append_assoc]
 rw [e]
 refine TKL.app ?_ (TKL.app ?_ (TKL.app ?_ (TKL.app ?_ ?_)))
 ·unfold tk1
  by_cases e3:f.k=3
  ·rw [if_pos e3,if_pos e3];exact TKL.nil
  ·rw [if_neg e3,if_neg e3];exact TKL.one (head_tk (by omega) h22)
 ·unfold tk2
  rw [s1] at*
  cases hb:(frm f.k).nm with
  | true=>rw [hb,if_pos rfl] at p2;rw [if_pos rfl,if_pos rfl];exact TKL.one (TK1.name p2)
  | false=>rw [if_neg (by simp),if_neg (by simp)];exact TKL.nil
 ·unfold tk3 tk4
  cases hb:(shp f.k).reck with
  | true=>
   rw [if_pos rfl,if_pos rfl,if_pos rfl]
   rw [← s2,hb] at p3
   obtain ⟨o1,o2⟩:=opB_used p3
   have hl:=(s5 hb).2
   have hn:nameB (f.vars.headD ⟨#[]⟩)=true:=by
    cases hvv:f.vars with
    | nil=>rw [hvv] at hv;simp at hv;omega
    | cons x l=>exact hall x (by rw [hvv];simp)
   exact TKL.cons (op_tk o1 o2) (TKL.one (TK1.name hn))
  | false=>rw [if_neg (by simp),if_neg (by simp),if_neg (by simp)];exact TKL.nil
 ·unfold tk5
  cases hb:(shp f.k).listed with
  | true=>
   rw [if_pos rfl,if_pos rfl]
   refine TKL.one (wds_tk ?_).inb
   intro s hs
   cases hr:(shp f.k).reck with
   | true=>rw [hr,if_pos rfl] at hs;exact hall s (List.mem_of_mem_drop hs)
   | false=>rw [hr,if_neg (by simp)] at hs;exact hall s hs
  | false=>rw [if_neg (by simp),if_neg (by simp)];exact TKL.nil
 ·unfold tk6
  cases hb:(shp f.k).timed with
  | true=>
   rw [if_pos rfl,if_pos rfl]
   rw [← s3,hb] at p4
   exact TKL.one (TK1.iv (by unfold itvB at p4;rwa [if_pos rfl] at p4))
  | false=>rw [if_neg (by simp),if_neg (by simp)];exact TKL.nil
theorem rx_facts {r:Rx} (h:rxE r=0):1≤r.k∧r.k≤5∧r.test.length=(if r.k=2 then 1 else 0)∧r.subs.length=(if r.k=3∨r.k=4 then 2 else if r.k=5 then 1 else 0):=by
 unfold rxE at h
 by_cases h1:r.k<1∨5<r.k
 ·rw [if_pos h1] at h;simp at h
 rw [if_neg h1] at h
 by_cases h2:r.test.length≠(if r.k=2 then 1 else 0)∨r.subs.length≠(if r.k=3∨r.k=4 then 2 else if r.k=5 then 1 else 0)
 ·rw [if_pos h2] at h;simp at h
 exact ⟨by omega,by omega,Classical.byContradiction fun e=>h2 (Or.inl e),Classical.byContradiction fun e=>h2 (Or.inr e)⟩
theorem both_tk:∀ m:Nat,(∀ fs:List Fm,SizeOf.sizeOf fs≤m→wfFs fs→ftFs fs→TKL (txFs fs) (tkFs fs))∧(∀ rs:List Rx,SizeOf.sizeOf rs≤m→wfRs rs→ftRs rs→TKL (txRs rs) (tkRs rs)):=by
 intro m
 induction m with
 | zero=>exact ⟨fun fs hn=>by cases fs<;>simp at hn,fun rs hn=>by cases rs<;>simp at hn⟩
 | succ m ih=>
  constructor
  ·intro fs hn hw hf
   cases fs with
   | nil=>rw [txFs,tkFs];exact TKL.nil
   | cons f l=>
    rw [wfFs_cons,wfF_eq] at hw
    rw [ftFs_cons,ftF_eq] at hf
    rw [txFs,tkFs]
    have h0:=Fm.subs_lt f
    have h1:=Fm.rgx_lt f
    simp at hn
    refine TKL.cons ?_ (ih.1 l (by omega) hw.2 hf.2)
    rw [txF_eq,tkF_eq]
    obtain ⟨⟨k1,k2⟩, -⟩:=fm_forms hw.1.1
    by_cases e1:f.k=1
    ·rw [if_pos e1,if_pos e1];exact TK1.word (by decide) (by decide) (by decide) (by decide)
    rw [if_neg e1,if_neg e1]
    by_cases e2:f.k=2
    ·rw [if_pos e2,if_pos e2];exact TK1.word (by decide) (by decide) (by decide) (by decide)
    rw [if_neg e2,if_neg e2]
    have q:=((((fmH_tk hw.1.1 (by omega)).app (tms_tk _ f.terms (Nat.le_refl _) hw.1.2.1 hf.1.1)).app (ih.2 f.rgx (by omega) hw.1.2.2.1 hf.1.2.1)).app (ih.1 f.subs (by omega) hw.1.2.2.2 hf.1.2.2)).inb
    simp only [List.append_assoc] at q ⊢
    exact q
  ·intro rs hn hw hf
   cases rs with
   | nil=>rw [txRs,tkRs];exact TKL.nil
   | cons r l=>
    rw [wfRs_cons,wfR_eq] at hw
    rw [ftRs_cons,ftR_eq] at hf
    rw [txRs,tkRs]
    have h0:=Rx.subs_lt r
    have h1:=Rx.test_lt r
    simp at hn
    refine TKL.cons ?_ (ih.2 l (by omega) hw.2 hf.2)
    rw [txR_eq,tkR_eq]
    obtain ⟨k1,k2, -⟩:=rx_facts hw.1.1
    by_cases e1:r.k=1
    ·rw [if_pos e1,if_pos e1];exact rx_tk (by decide) (by decide)
    rw [if_neg e1,if_neg e1]
    have q:=(TKL.cons (rx_tk k1 k2) ((ih.1 r.test (by omega) hw.1.2.1 hf.1.1).app (ih.2 r.subs (by omega) hw.1.2.2 hf.1.2))).inb
    simp only [List.append_assoc,List.cons_append,List.nil_append] at q ⊢
    exact q
theorem fm_tk {f:Fm} (hw:wfF f) (hf:ftF f):TK (txF f) (tkF f):=by
 have h:=(both_tk _).1 [f] (Nat.le_refl _) (by rw [wfFs_cons,wfFs_nil];exact ⟨hw,trivial⟩) (by rw [ftFs_cons,ftFs];exact ⟨hf,trivial⟩)
 have h2:=(h [] [] (Or.inl rfl) TK.nil).2
 rw [txFs,txFs,tkFs,tkFs] at h2
 simpa [jn] using h2
def RdS {α:Type}:Rd α→Rd α→Prop
 | .bad e _,.bad e' _=>e=e'
 | .ok x r,.ok y s=>x=y∧r.map tri=s.map tri
 | _,_=>False
theorem RdS.bind {α β:Type} {x y:Rd α} {f g:α→List (Tok Val)→Rd β} (h:RdS x y) (k:∀ a r s,r.map tri=s.map tri→RdS (f a r) (g a s)):RdS (x.bind f) (y.bind g):=by
 cases x with
 | bad e a=>
  cases y with
  | bad e' a'=>exact h
  | ok y s=>exact h.elim
 | ok x r=>
  cases y with
  | bad e' a'=>exact h.elim
  | ok y s=>
   obtain ⟨h1,h2⟩:=h
   subst h1
   exact k x r s h2
theorem tri_nil {l:List (Tok Val)} (h:([]:List (Tok Val)).map tri=l.map tri):l=[]:=by
 cases l with
 | nil=>rfl
 | cons t r=>simp at h
theorem tri_cons {t:Tok Val} {r l:List (Tok Val)} (h:(t::r).map tri=l.map tri):∃ u s,l=u::s∧u.k=t.k∧u.x=t.x∧u.v=t.v∧r.map tri=s.map tri:=by
 cases l with
 | nil=>simp at h
 | cons u s=>
  rw [List.map_cons,List.map_cons] at h
  injection h with h1 h2
  unfold tri at h1
  injection h1 with h3 h4
  injection h4 with h4 h5
  exact ⟨u,s,rfl,h3.symm,h4.symm,h5.symm,h2⟩
theorem txB_eq {t u:Tok Val} (h:u.x=t.x):txB u=txB t:=by unfold txB;rw [h]
theorem sim_next (sz sy:Nat) {l m:List (Tok Val)} (h:l.map tri=m.map tri):(∃ e a b,rNext sz l=.bad e a∧rNext sy m=.bad e b)∨∃ t u r s,rNext sz l=.ok t r∧rNext sy m=.ok u s∧u.k=t.k∧u.x=t.x∧u.v=t.v∧r.map tri=s.map tri:=by
 cases l with
 | nil=>rw [tri_nil h];exact Or.inl ⟨_,_,_,rfl,rfl⟩
 | cons t r=>
  obtain ⟨u,s,rfl,h1,h2,h3,h4⟩:=tri_cons h
  exact Or.inr ⟨t,u,r,s,rfl,rfl,h1,h2,h3,h4⟩
theorem sim_beg (sz sy:Nat) (d:Int) {l m:List (Tok Val)} (h:l.map tri=m.map tri):(∃ e a b,rBeg sz d l=.bad e a∧rBeg sy d m=.bad e b)∨∃ t u r s,rBeg sz d l=.ok t r∧rBeg sy d m=.ok u s∧u.k=t.k∧u.x=t.x∧u.v=t.v∧r.map tri=s.map tri:=by
 cases l with
 | nil=>rw [tri_nil h];exact Or.inl ⟨_,_,_,rfl,rfl⟩
 | cons t r=>
  obtain ⟨u,s,rfl,h1,h2,h3,h4⟩:=tri_cons h
  rw [rBeg,rBeg]
  by_cases hd:24<d
  ·rw [if_pos hd,if_pos hd];exact Or.inl ⟨_,_,_,rfl,rfl⟩
  ·rw [if_neg hd,if_neg hd];exact Or.inr ⟨t,u,r,s,rfl,rfl,h1,h2,h3,h4⟩
theorem sim_exp (sz sy:Nat) (c:List UInt8) {l m:List (Tok Val)} (h:l.map tri=m.map tri):RdS (rExp sz c l) (rExp sy c m):=by
 cases l with
 | nil=>rw [tri_nil h];exact rfl
 | cons t r=>
  obtain ⟨u,s,rfl,h1,h2,h3,h4⟩:=tri_cons h
  rw [rExp,rExp,h2]
  by_cases hd:t.x=c
  ·rw [if_pos hd,if_pos hd];exact ⟨rfl,h4⟩
  ·rw [if_neg hd,if_neg hd];exact rfl
theorem sim_name (sz sy:Nat) {l m:List (Tok Val)} (h:l.map tri=m.map tri):RdS (rName sz l) (rName sy m):=by
 cases l with
 | nil=>rw [tri_nil h];exact rfl
 | cons t r=>
  obtain ⟨u,s,rfl,h1,h2,h3,h4⟩:=tri_cons h
  rw [rName,rName,txB_eq h2]
  by_cases hd:nameB (txB t)=true
  ·rw [if_pos hd,if_pos hd];exact ⟨rfl,h4⟩
  ·rw [if_neg hd,if_neg hd];exact rfl
theorem sim_clos {l m:List (Tok Val)} (h:l.map tri=m.map tri):clos l=clos m:=by
 cases l with
 | nil=>rw [tri_nil h]
 | cons t r=>
  obtain ⟨u,s,rfl,h1,h2,h3,h4⟩:=tri_cons h
  rw [clos,clos,h2]
theorem sim_nms (sz sy:Nat):∀ (l m:List (Tok Val)),l.map tri=m.map tri→RdS (rNms sz l) (rNms sy m)
 | [],m,h=>by rw [tri_nil h];exact rfl
 | t::r,m,h=>by
  obtain ⟨u,s,rfl,h1,h2,h3,h4⟩:=tri_cons h
  unfold rNms
  rw [txB_eq h2,h2]
  by_cases hc:t.x=[41]
  ·rw [if_pos hc,if_pos hc];exact ⟨rfl,by rw [List.map_cons,List.map_cons,h4];unfold tri;rw [h1,h2,h3]⟩
  ·rw [if_neg hc,if_neg hc]
   by_cases hd:nameB (txB t)=true
   ·rw [if_pos hd,if_pos hd]
    exact (sim_nms sz sy r s h4).bind fun a r s h=>⟨rfl,h⟩
   ·rw [if_neg hd,if_neg hd];exact rfl
theorem sim_list (sz sy:Nat) {l m:List (Tok Val)} (h:l.map tri=m.map tri):RdS (rList sz l) (rList sy m):=
 (sim_exp sz sy _ h).bind fun _ r s h=>(sim_nms sz sy r s h).bind fun a r s h=>(sim_exp sz sy _ h).bind fun _ r s h=>⟨rfl,h⟩
def Sim {α:Type} (p q:List (Tok Val)→Rd α):Prop:=∀ l m,l.map tri=m.map tri→RdS (p l) (q m)
theorem sim_many {α:Type} {p q:List (Tok Val)→Rd α} (hp:Sim p q) (more:Bool):∀ (n k:Nat) (l m:List (Tok Val)),l.map tri=m.map tri→RdS (rMany p more n k l) (rMany q more n k m)
 | 0,_,_,_,_=>rfl
 | n+1,k,l,m,h=>by
  unfold rMany
  rw [sim_clos h]
  by_cases hc:0<k∨(more=true∧clos m=false)
  ·rw [if_pos hc,if_pos hc]
   exact (hp l m h).bind fun a r s h=>(sim_many hp more n (k - 1) r s h).bind fun a r s h=>⟨rfl,h⟩
  ·rw [if_neg hc,if_neg hc];exact ⟨rfl,h⟩
theorem sim_iv (sz sy:Nat):Sim (rIv sz) (rIv sy):=fun l m h=>by
 cases l with
 | nil=>rw [tri_nil h];exact rfl
 | cons t r=>
  obtain ⟨u,s,rfl,h1,h2,h3,h4⟩:=tri_cons h
  rw [rIv,rIv,h1,h2]
  by_cases hd:t.k=5
  ·rw [if_pos hd,if_pos hd];exact ⟨rfl,h4⟩
  ·rw [if_neg hd,if_neg hd];exact rfl
theorem sim_op (sz sy:Nat):Sim (rOp sz) (rOp sy):=fun l m h=>by
 cases l with
 | nil=>rw [tri_nil h];exact rfl
 | cons t r=>
  obtain ⟨u,s,rfl,h1,h2,h3,h4⟩:=tri_cons h
  rw [rOp,rOp,h2]
  cases kindIn hdO t.x 1 6 with
  | none=>exact rfl
  | some k=>exact ⟨rfl,h4⟩
theorem sim_if {α:Type} (b:Bool) (z:α) {p q:List (Tok Val)→Rd α} (hp:Sim p q):Sim (rIf b z p) (rIf b z q):=fun l m h=>by
 unfold rIf
 cases b with
 | true=>exact hp l m h
 | false=>exact ⟨rfl,h⟩
theorem sim_T (sz sy:Nat):∀ (n:Nat) (d:Int),Sim (pT sz n d) (pT sy n d)
 | 0,_=>fun _ _ _=>rfl
 | n+1,d=>fun l m h=>by
  unfold pT
  rcases sim_beg sz sy d h with ⟨e,a,b,h1,h2⟩ | ⟨t,u,r,s,h1,h2,e1,e2,e3,h4⟩
  ·rw [h1,h2];exact rfl
  rw [h1,h2,Rd.bind_ok,Rd.bind_ok,txB_eq e2,e1,e2,e3]
  by_cases c1:nameB (txB t)=true
  ·rw [if_pos c1,if_pos c1];exact ⟨rfl,h4⟩
  rw [if_neg c1,if_neg c1]
  by_cases c2:t.k=6
  ·rw [if_pos c2,if_pos c2];exact ⟨rfl,h4⟩
  rw [if_neg c2,if_neg c2]
  by_cases c3:t.x=[40]
  ·rw [if_pos c3,if_pos c3]
   rcases sim_next sz sy h4 with ⟨e,a,b,h1,h2⟩ | ⟨t,u,r,s,h1,h2,e1,e2,e3,h4⟩
   ·rw [h1,h2];exact rfl
   rw [h1,h2,Rd.bind_ok,Rd.bind_ok,e2]
   cases kindIn hdT t.x 3 3 with
   | none=>exact rfl
   | some k=>exact (sim_many (sim_T sz sy n (d+1)) false n 2 r s h4).bind fun a r s h=>(sim_exp sz sy _ h).bind fun _ r s h=>⟨rfl,h⟩
  ·rw [if_neg c3,if_neg c3];exact rfl
theorem sim_name1 (sz sy:Nat):Sim (fun r=>(rName sz r).bind fun x r'=>.ok [x] r') (fun r=>(rName sy r).bind fun x r'=>.ok [x] r'):=fun l m h=>(sim_name sz sy h).bind fun x r s h=>⟨rfl,h⟩
theorem sim_shaped (sz sy:Nat) {n:Nat} {pt qt:List (Tok Val)→Rd Tm} {pf qf:List (Tok Val)→Rd Fm} {pr qr:List (Tok Val)→Rd Rx} (ht:Sim pt qt) (hf:Sim pf qf) (hr:Sim pr qr) (k:Int):Sim (pShaped sz n pt pf pr k) (pShaped sy n qt qf qr k):=fun l m h=>by
 unfold pShaped
 refine (sim_if _ _ (fun l m h=>sim_name sz sy h) l m h).bind fun _ r1 s1 h1=> ?_
 refine (sim_if _ _ (sim_op sz sy) r1 s1 h1).bind fun _ r2 s2 h2=> ?_
 refine (sim_if _ _ (sim_name1 sz sy) r2 s2 h2).bind fun _ r3 s3 h3=> ?_
 refine (sim_if _ _ (fun l m h=>sim_list sz sy h) r3 s3 h3).bind fun _ r4 s4 h4=> ?_
 refine (sim_if _ _ (sim_iv sz sy) r4 s4 h4).bind fun _ r5 s5 h5=> ?_
 refine (sim_many ht _ _ _ r5 s5 h5).bind fun _ r6 s6 h6=> ?_
 refine (sim_many hr _ _ _ r6 s6 h6).bind fun _ r7 s7 h7=> ?_
 refine (sim_many hf _ _ _ r7 s7 h7).bind fun _ r8 s8 h8=>⟨rfl,h8⟩
theorem sim_form (sz sy:Nat) {n:Nat} {pt qt:List (Tok Val)→Rd Tm} {pf qf:List (Tok Val)→Rd Fm} {pr qr:List (Tok Val)→Rd Rx} (ht:Sim pt qt) (hf:Sim pf qf) (hr:Sim pr qr) (d:Int):Sim (pForm sz n pt pf pr d) (pForm sy n qt qf qr d):=fun l m h=>by
 unfold pForm
 rcases sim_beg sz sy d h with ⟨e,a,b,h1,h2⟩ | ⟨t,u,r,s,h1,h2,e1,e2,e3,h4⟩
 ·rw [h1,h2];exact rfl
 rw [h1,h2,Rd.bind_ok,Rd.bind_ok,e2]
 by_cases c1:t.x=[116,114,117,101]
 ·rw [if_pos c1,if_pos c1];exact ⟨rfl,h4⟩
 rw [if_neg c1,if_neg c1]
 by_cases c2:t.x=[102,97,108,115,101]
 ·rw [if_pos c2,if_pos c2];exact ⟨rfl,h4⟩
 rw [if_neg c2,if_neg c2]
 by_cases c3:t.x=[40]
 ·rw [if_pos c3,if_pos c3]
  have hh:RdS (pHead sz n pt pf pr r) (pHead sy n qt qf qr s):=by
   unfold pHead
   rcases sim_next sz sy h4 with ⟨e,a,b,h1,h2⟩ | ⟨t,u,r,s,h1,h2,e1,e2,e3,h4⟩
   ·rw [h1,h2];exact rfl
   rw [h1,h2,Rd.bind_ok,Rd.bind_ok,txB_eq e2,e2]
   by_cases c4:nameB (txB t)=true
   ·rw [if_pos c4,if_pos c4]
    exact (sim_many ht true n 0 r s h4).bind fun a r s h=>⟨rfl,h⟩
   rw [if_neg c4,if_neg c4]
   cases kindIn hdF t.x 4 19 with
   | none=>exact rfl
   | some k=>exact sim_shaped sz sy ht hf hr k r s h4
  exact hh.bind fun a r s h=>(sim_exp sz sy _ h).bind fun _ r s h=>⟨rfl,h⟩
 ·rw [if_neg c3,if_neg c3];exact rfl
theorem sim_regex (sz sy:Nat) {n:Nat} {pf qf:List (Tok Val)→Rd Fm} {pr qr:List (Tok Val)→Rd Rx} (hf:Sim pf qf) (hr:Sim pr qr) (d:Int):Sim (pRegex sz n pf pr d) (pRegex sy n qf qr d):=fun l m h=>by
 unfold pRegex
 rcases sim_beg sz sy d h with ⟨e,a,b,h1,h2⟩ | ⟨t,u,r,s,h1,h2,e1,e2,e3,h4⟩
 ·rw [h1,h2];exact rfl
 rw [h1,h2,Rd.bind_ok,Rd.bind_ok,e2]
 by_cases c1:t.x=hdR 1
 ·rw [if_pos c1,if_pos c1];exact ⟨rfl,h4⟩
 rw [if_neg c1,if_neg c1]
 by_cases c3:t.x=[40]
 ·rw [if_pos c3,if_pos c3]
  have hh:RdS (pHeadR sz n pf pr r) (pHeadR sy n qf qr s):=by
   unfold pHeadR
   rcases sim_next sz sy h4 with ⟨e,a,b,h1,h2⟩ | ⟨t,u,r,s,h1,h2,e1,e2,e3,h4⟩
   ·rw [h1,h2];exact rfl
   rw [h1,h2,Rd.bind_ok,Rd.bind_ok,e2]
   by_cases c4:t.x=hdR 2
   ·rw [if_pos c4,if_pos c4]
    exact (sim_many hf false n 1 r s h4).bind fun a r s h=>⟨rfl,h⟩
   rw [if_neg c4,if_neg c4]
   by_cases c5:t.x=hdR 3
   ·rw [if_pos c5,if_pos c5]
    exact (sim_many hr false n 2 r s h4).bind fun a r s h=>⟨rfl,h⟩
   rw [if_neg c5,if_neg c5]
   by_cases c6:t.x=hdR 4
   ·rw [if_pos c6,if_pos c6]
    exact (sim_many hr false n 2 r s h4).bind fun a r s h=>⟨rfl,h⟩
   rw [if_neg c6,if_neg c6]
   by_cases c7:t.x=hdR 5
   ·rw [if_pos c7,if_pos c7]
    exact (sim_many hr false n 1 r s h4).bind fun a r s h=>⟨rfl,h⟩
   rw [if_neg c7,if_neg c7]
   exact rfl
  exact hh.bind fun a r s h=>(sim_exp sz sy _ h).bind fun _ r s h=>⟨rfl,h⟩
 ·rw [if_neg c3,if_neg c3];exact rfl
theorem sim_FR (sz sy:Nat):∀ n:Nat,(∀ d:Int,Sim ((pFR sz n).1 d) ((pFR sy n).1 d))∧(∀ d:Int,Sim ((pFR sz n).2 d) ((pFR sy n).2 d))
 | 0=>⟨fun _ _ _ _=>rfl,fun _ _ _ _=>rfl⟩
 | n+1=>by
  have ih:=sim_FR sz sy n
  exact ⟨fun d=>sim_form sz sy (sim_T sz sy n (d+1)) (ih.1 (d+1)) (ih.2 (d+1)) d,fun d=>sim_regex sz sy (ih.1 (d+1)) (ih.2 (d+1)) d⟩
theorem sim_all (sz sy:Nat) {l m:List (Tok Val)} (h:l.map tri=m.map tri):RdS (pAll sz l) (pAll sy m):=by
 have hl:l.length=m.length:=by have:=congrArg List.length h;simpa using this
 unfold pAll
 rw [hl]
 refine ((sim_FR sz sy (m.length+1)).1 1 l m h).bind fun a r s h=> ?_
 cases r with
 | nil=>rw [tri_nil h];exact ⟨rfl,rfl⟩
 | cons t r=>
  obtain ⟨u,s,rfl,h1,h2,h3,h4⟩:=tri_cons h
  exact rfl
theorem txB_wd (x:ByteArray):txB (wdT x.data.toList)=x:=by
 unfold txB wdT
 cases x with
 | mk d=>simp
theorem opT_x:opT.x=[40]:=rfl
theorem clT_x:clT.x=[41]:=rfl
theorem wdT_x (x:List UInt8):(wdT x).x=x:=rfl
theorem valTk_k (v:Val):(valTk v).k=6:=rfl
theorem many_back {α:Type} (p:List (Tok Val)→Rd α) (tk:α→List (Tok Val)) (more:Bool):∀ (l:List α) (n k:Nat) (R:List (Tok Val)),(∀ a∈l,∀ R,p (tk a++R)=.ok a R)→(∀ a∈l,∀ R,clos (tk a++R)=false)→(more=true→clos R=true)→(if more then k≤l.length else k=l.length)→l.length<n→rMany p more n k ((l.map tk).flatten++R)=.ok l R
 | [],n,k,R,hp,hc,hR,hk,hn=>by
  cases n with
  | zero=>omega
  | succ n=>
   unfold rMany
   rw [if_neg]
   ·rfl
   ·intro q
    rcases q with q | ⟨q1,q2⟩
    ·cases more<;>simp at hk<;>omega
    ·have:=hR q1;simp at q2;rw [this] at q2;cases q2
 | a::l,n,k,R,hp,hc,hR,hk,hn=>by
  cases n with
  | zero=>omega
  | succ n=>
   unfold rMany
   have e:((a::l).map tk).flatten++R=tk a++((l.map tk).flatten++R):=by simp
   rw [e,if_pos,hp a (by simp),Rd.bind_ok,many_back p tk more l n (k - 1) R (fun b hb=>hp b (by simp [hb])) (fun b hb=>hc b (by simp [hb])) hR,Rd.bind_ok]
   ·cases more<;>simp at hk ⊢<;>omega
   ·simp at hn;omega
   ·cases more with
    | true=>exact Or.inr ⟨rfl,hc a (by simp) _⟩
    | false=>simp at hk;exact Or.inl (by omega)
theorem clos_wd (x:List UInt8) (hx:x≠[41]) (R:List (Tok Val)):clos (wdT x::R)=false:=by
 show decide (x=[41])=false
 rw [decide_eq_false hx]
theorem name_ne {x:ByteArray} (h:nameB x=true):x.data.toList≠[41]∧x.data.toList≠[40]∧x.data.toList≠[]:=by
 obtain ⟨h1,h2,h3,h4⟩:=name_parts h
 refine ⟨fun e=> ?_,fun e=> ?_,fun e=> ?_⟩<;>rw [e] at h3<;>cases h3
theorem text_ne {v:Val} (hm:v.may=0):v.text≠[41]∧nameB ⟨v.text.toArray⟩=false:=by
 obtain ⟨h1,h2⟩:=text_hd hm
 refine ⟨fun e=> ?_, ?_⟩
 ·rw [e] at h2;rcases h2 with h | h | h<;>cases h
 ·cases hb:nameB ⟨v.text.toArray⟩ with
  | false=>rfl
  | true=>
   obtain ⟨-, -,h3, -⟩:=name_parts hb
   simp only at h3
   rcases h2 with h | h | h
   ·simp only [lowN,digN,Bool.and_eq_true,decide_eq_true_eq] at h h3;omega
   ·rw [h] at h3;cases h3
   ·rw [h] at h3;cases h3
theorem tk_clos {t:Tm} (hw:wfT t) (R:List (Tok Val)):clos (tkT t++R)=false:=by
 rw [wfT_eq] at hw
 rw [tkT_eq]
 rcases tm_facts hw.1 with ⟨h1,h2, -⟩ | ⟨h1,h2, -⟩ | ⟨h1,h2, -⟩
 ·rw [if_pos h1];exact clos_wd _ (name_ne h2).1 _
 ·rw [if_neg (by omega),if_pos h1]
  show decide (t.v.text=[41])=false
  rw [decide_eq_false (text_ne h2).1]
 ·rw [if_neg (by omega),if_neg (by omega)];rfl
theorem depTs_mem:∀ {l:List Tm},∀ t∈l,depT t≤depTs l
 | [],t,h=>by cases h
 | x::l,t,h=>by
  rw [depTs_cons]
  rcases List.mem_cons.1 h with rfl | h
  ·omega
  ·have:=depTs_mem t h;omega
theorem depFs_mem:∀ {l:List Fm},∀ t∈l,depF t≤depFs l
 | [],t,h=>by cases h
 | x::l,t,h=>by
  rw [depFs_cons]
  rcases List.mem_cons.1 h with rfl | h
  ·omega
  ·have:=depFs_mem t h;omega
theorem depRs_mem:∀ {l:List Rx},∀ t∈l,depR t≤depRs l
 | [],t,h=>by cases h
 | x::l,t,h=>by
  rw [depRs_cons]
  rcases List.mem_cons.1 h with rfl | h
  ·omega
  ·have:=depRs_mem t h;omega
theorem flat_len {α:Type} (tk:α→List (Tok Val)) (h1:∀ a,1≤(tk a).length):∀ l:List α,l.length≤((l.map tk).flatten).length∧∀ a∈l,(tk a).length≤((l.map tk).flatten).length
 | []=>⟨by simp,fun a h=>by cases h⟩
 | x::l=>by
  obtain ⟨i1,i2⟩:=flat_len tk h1 l
  have:=h1 x
  simp only [List.map_cons,List.flatten_cons,List.length_append,List.length_cons]
  refine ⟨by omega,fun a h=> ?_⟩
  rcases List.mem_cons.1 h with rfl | h
  ·omega
  ·have:=i2 a h;omega
theorem tkT_pos (t:Tm):1≤(tkT t).length:=by
 rw [tkT_eq]
 split
 ·simp
 ·split<;>simp
theorem tkF_pos (f:Fm):1≤(tkF f).length:=by
 rw [tkF_eq]
 split
 ·simp
 ·split<;>simp
theorem tkR_pos (r:Rx):1≤(tkR r).length:=by
 rw [tkR_eq]
 split<;>simp
theorem rBeg_ok {sz:Nat} {d:Int} (hd:d≤24) (t:Tok Val) (r:List (Tok Val)):rBeg sz d (t::r)=.ok t r:=by rw [rBeg,if_neg (by omega)]
theorem back_T (sz:Nat):∀ (n:Nat) (t:Tm) (d:Int) (R:List (Tok Val)),(tkT t).length≤n→wfT t→d - 1+depT t≤24→pT sz n d (tkT t++R)=.ok t R:=by
 intro n
 induction n with
 | zero=>intro t d R hn;have:=tkT_pos t;omega
 | succ n ih=>
  intro t d R hn hw hd
  have hw':=hw
  rw [wfT_eq] at hw
  rw [depT_eq] at hd
  unfold pT
  have hd':d≤24:=by omega
  rw [tkT_eq] at hn ⊢
  rcases tm_facts hw.1 with ⟨h1,h2,h3⟩ | ⟨h1,h2,h3⟩ | ⟨h1,h2,h3⟩
  ·rw [if_pos h1,List.singleton_append,rBeg_ok hd',Rd.bind_ok,txB_wd,if_pos h2,← h3]
  ·rw [if_neg (by omega),if_pos h1,List.singleton_append,rBeg_ok hd',Rd.bind_ok]
   have hb:¬ nameB (txB (valTk t.v))=true:=by
    have:=(text_ne h2).2
    show ¬ nameB ⟨t.v.text.toArray⟩=true
    rw [this];simp
   rw [if_neg hb,if_pos (valTk_k _)]
   show Rd.ok (tmC t.v) R=_
   rw [← h3]
  ·rw [if_neg (by omega),if_neg (by omega)] at hn ⊢
   rw [List.cons_append,rBeg_ok hd',Rd.bind_ok,if_neg (by decide),if_neg (by decide),if_pos opT_x,List.cons_append,rNext,Rd.bind_ok]
   have hk:kindIn hdT (sgT (hdT t.k)).x 3 3=some t.k:=by rcases h1 with h | h | h<;>rw [h]<;>rfl
   rw [hk]
   dsimp only
   have hl:=flat_len tkT tkT_pos t.subs
   rw [← tkTs_map] at hl
   simp at hn
   have hm:=many_back (pT sz n (d+1)) tkT false t.subs n 2 (clT::R) (fun a ha R=>ih a (d+1) R (by have:=hl.2 a ha;omega) (wfTs_mem hw.2 a ha) (by have:=depTs_mem a ha;omega)) (fun a ha R=>tk_clos (wfTs_mem hw.2 a ha) R) (fun e=>by cases e) (by simp [h2]) (by omega)
   rw [← tkTs_map] at hm
   have e:tkTs t.subs++[clT]++R=tkTs t.subs++clT::R:=by simp
   rw [e,hm,Rd.bind_ok,rExp,if_pos clT_x,Rd.bind_ok,← h3]
theorem nms_back (sz:Nat):∀ (l:List ByteArray) (R:List (Tok Val)),(∀ s∈l,nameB s=true)→rNms sz (wdsT l++clT::R)=.ok l (clT::R)
 | [],R,_=>by
  show rNms sz (clT::R)=_
  unfold rNms
  rw [if_pos clT_x]
 | x::l,R,h=>by
  show rNms sz (wdT x.data.toList::(wdsT l++clT::R))=_
  unfold rNms
  rw [if_neg (show ¬ (wdT x.data.toList).x=[41] from (name_ne (h x (by simp))).1),txB_wd,if_pos (h x (by simp)),nms_back sz l R (fun s hs=>h s (by simp [hs])),Rd.bind_ok]
theorem list_back (sz:Nat) (l:List ByteArray) (R:List (Tok Val)) (h:∀ s∈l,nameB s=true):rList sz (opT::(wdsT l++[clT])++R)=.ok l R:=by
 have e:opT::(wdsT l++[clT])++R=opT::(wdsT l++clT::R):=by simp
 unfold rList
 rw [e,rExp,if_pos opT_x,Rd.bind_ok,nms_back sz l R h,Rd.bind_ok,rExp,if_pos clT_x,Rd.bind_ok]
theorem if_back {α:Type} {b:Bool} {z x:α} {p:List (Tok Val)→Rd α} {A R:List (Tok Val)} (ht:b=true→p (A++R)=.ok x R) (hf:b=false→A=[]∧x=z):rIf b z p (A++R)=.ok x R:=by
 unfold rIf
 cases b with
 | true=>rw [if_pos rfl];exact ht rfl
 | false=>obtain ⟨h1,h2⟩:=hf rfl;rw [if_neg (by simp),h1,h2];rfl
theorem head_not {k:Int} (h1:4≤k) (h2:k≤22):nameB (txB (hdTk k))=false∧kindIn hdF (hdTk k).x 4 19=some k:=by
 rcases kinds22 (by omega) h2 with h | h | h | h | h | h | h | h | h | h | h | h | h | h | h | h | h | h | h | h<;>first | omega | (subst h;exact ⟨by decide,by decide⟩)
theorem back_shaped {sz n:Nat} {pt:List (Tok Val)→Rd Tm} {pf:List (Tok Val)→Rd Fm} {pr:List (Tok Val)→Rd Rx} {f:Fm} (h:fmE f=0) (h4:4≤f.k) (R:List (Tok Val)) (hR:clos R=true)
  (ht:∀ a∈f.terms,∀ R,pt (tkT a++R)=.ok a R) (hf:∀ a∈f.subs,∀ R,pf (tkF a++R)=.ok a R) (hr:∀ a∈f.rgx,∀ R,pr (tkR a++R)=.ok a R)
  (ct:∀ a∈f.terms,∀ R,clos (tkT a++R)=false) (cf:∀ a∈f.subs,∀ R,clos (tkF a++R)=false) (cr:∀ a∈f.rgx,∀ R,clos (tkR a++R)=false)
  (nt:f.terms.length<n) (nf:f.subs.length<n) (nr:f.rgx.length<n):
  pShaped sz n pt pf pr f.k (tk2 f++(tk3 f++(tk4 f++(tk5 f++(tk6 f++(tkTs f.terms++(tkRs f.rgx++(tkFs f.subs++R))))))))=.ok f R:=by
 obtain ⟨⟨-,h22⟩,hv,htl,hsl,hrl⟩:=fm_forms h
 obtain ⟨p1,p2,p3,p4⟩:=fm_parts h
 obtain ⟨s1,s2,s3,s4,s5,s6,s7,s8,s9⟩:=shp_frm (k:=f.k) (by omega) h22
 have hall:=namesB_all p1
 have hv0:(shp f.k).reck=true→∃ x l,f.vars=x::l:=fun hb=>by
  have hl:=(s5 hb).2
  cases hvv:f.vars with
  | nil=>rw [hvv] at hv;simp at hv;omega
  | cons x l=>exact ⟨x,l,rfl⟩
 unfold pShaped
 rw [if_back (x:=f.nm) (A:=tk2 f) (fun hb=> ?a1) (fun hb=> ?a2),Rd.bind_ok]
 case a1=>
  rw [← s1,hb,if_pos rfl] at p2
  unfold tk2
  rw [hb,if_pos rfl,List.singleton_append,rName,txB_wd,if_pos p2]
 case a2=>
  rw [← s1,hb,if_neg (by simp)] at p2
  unfold tk2
  rw [hb]
  exact ⟨if_neg (by simp),data_nil p2⟩
 rw [if_back (x:=f.op) (A:=tk3 f) (fun hb=> ?b1) (fun hb=> ?b2),Rd.bind_ok]
 case b1=>
  rw [← s2,hb] at p3
  obtain ⟨o1,o2⟩:=opB_used p3
  unfold tk3
  rw [hb,if_pos rfl,List.singleton_append,rOp]
  have hk:kindIn hdO (wdT (hdO f.op)).x 1 6=some f.op:=by
   have:f.op=1∨f.op=2∨f.op=3∨f.op=4∨f.op=5∨f.op=6:=by omega
   rcases this with e | e | e | e | e | e<;>rw [e]<;>rfl
  rw [hk]
 case b2=>
  rw [← s2,hb] at p3
  unfold tk3
  rw [hb]
  exact ⟨if_neg (by simp),opB_un p3⟩
 rw [if_back (x:=if (shp f.k).reck then f.vars.take 1 else []) (A:=tk4 f) (fun hb=> ?c1) (fun hb=> ?c2),Rd.bind_ok]
 case c1=>
  obtain ⟨x,l,e⟩:=hv0 hb
  have hx:nameB x=true:=hall x (by rw [e];simp)
  unfold tk4
  rw [hb,if_pos rfl,if_pos rfl,List.singleton_append,e]
  show (rName sz (wdT x.data.toList::_)).bind _=_
  rw [rName,txB_wd,if_pos hx,Rd.bind_ok]
  rfl
 case c2=>
  unfold tk4
  rw [hb]
  exact ⟨if_neg (by simp),if_neg (by simp)⟩
 rw [if_back (x:=if (shp f.k).reck then f.vars.drop 1 else f.vars) (A:=tk5 f) (fun hb=> ?d1) (fun hb=> ?d2),Rd.bind_ok]
 case d1=>
  unfold tk5
  rw [hb,if_pos rfl,list_back]
  intro s hs
  cases hc:(shp f.k).reck with
  | true=>rw [hc,if_pos rfl] at hs;exact hall s (List.mem_of_mem_drop hs)
  | false=>rw [hc,if_neg (by simp)] at hs;exact hall s hs
 case d2=>
  unfold tk5
  rw [hb]
  refine ⟨if_neg (by simp), ?_⟩
  have e0:f.vars=[]:=List.length_eq_zero_iff.1 (by have:=s4 hb;omega)
  rw [e0]
  cases (shp f.k).reck<;>rfl
 rw [if_back (x:=(f.lo,f.hi,f.opn)) (A:=tk6 f) (fun hb=> ?e1) (fun hb=> ?e2),Rd.bind_ok]
 case e1=>
  rw [← s3,hb] at p4
  have hi:itvU f.lo f.hi f.opn=true:=by unfold itvB at p4;rwa [if_pos rfl] at p4
  unfold tk6
  rw [hb,if_pos rfl,List.singleton_append,rIv]
  dsimp only
  rw [if_pos rfl,ivOf_iv hi]
 case e2=>
  rw [← s3,hb] at p4
  have hi:itvZ f.lo f.hi f.opn=true:=by unfold itvB at p4;rwa [if_neg (by simp)] at p4
  unfold itvZ at hi
  simp only [Bool.and_eq_true,beq_iff_eq] at hi
  unfold tk6
  rw [hb]
  exact ⟨if_neg (by simp),by rw [hi.1,hi.2.1,hi.2.2]⟩
 have m1:=many_back pt tkT false f.terms n (shp f.k).terms (tkRs f.rgx++(tkFs f.subs++R)) ht ct (fun e=>by cases e) (by have:=s6 (by omega);simp;omega) nt
 rw [← tkTs_map] at m1
 rw [m1,Rd.bind_ok]
 have m2:=many_back pr tkR false f.rgx n (shp f.k).rgx (tkFs f.subs++R) hr cr (fun e=>by cases e) (by simp;omega) nr
 rw [← tkRs_map] at m2
 rw [m2,Rd.bind_ok]
 have m3:=many_back pf tkF (shp f.k).more f.subs n (shp f.k).subs R hf cf (fun _=>hR) (by
  cases hb:(shp f.k).more with
  | true=>have:=s9 hb;simp;omega
  | false=>have:=s8 hb;simp;omega) nf
 rw [← tkFs_map] at m3
 rw [m3,Rd.bind_ok]
 have ev:(if (shp f.k).reck then f.vars.take 1 else [])++(if (shp f.k).reck then f.vars.drop 1 else f.vars)=f.vars:=by
  cases (shp f.k).reck with
  | true=>rw [if_pos rfl,if_pos rfl];exact List.take_append_drop 1 f.vars
  | false=>rw [if_neg (by simp),if_neg (by simp)];rfl
 rw [ev]
 cases f
 rfl
theorem fm_true {f:Fm} (h:fmE f=0) (hk:f.k=1∨f.k=2):f=fmK f.k:=by
 obtain ⟨-,hv,htl,hsl,hrl⟩:=fm_forms h
 obtain ⟨p1,p2,p3,p4⟩:=fm_parts h
 have e:frm f.k=⟨false,false,false,0,0,0,0,0,0,0,0⟩:=by rcases hk with h | h<;>rw [h]<;>rfl
 rw [e] at hv htl hsl hrl p2 p3 p4
 simp only at hv htl hsl hrl p2 p3 p4
 have v0:f.vars=[]:=List.length_eq_zero_iff.1 (by omega)
 have t0:f.terms=[]:=List.length_eq_zero_iff.1 (by omega)
 have b0:f.subs=[]:=List.length_eq_zero_iff.1 (by omega)
 have r0:f.rgx=[]:=List.length_eq_zero_iff.1 (by omega)
 rw [if_neg (by simp)] at p2
 have n0:=data_nil p2
 have o0:=opB_un p3
 unfold itvB at p4
 rw [if_neg (by simp)] at p4
 unfold itvZ at p4
 simp only [Bool.and_eq_true,beq_iff_eq] at p4
 cases f
 simp only [Fm.k,Fm.nm,Fm.op,Fm.vars,Fm.terms,Fm.lo,Fm.hi,Fm.opn,Fm.subs,Fm.rgx] at*
 rw [v0,t0,b0,r0,n0,o0,p4.1,p4.2.1,p4.2.2]
 rfl
theorem fm_pred {f:Fm} (h:fmE f=0) (hk:f.k=3):f=fmP f.nm f.terms∧nameB f.nm=true:=by
 obtain ⟨-,hv,htl,hsl,hrl⟩:=fm_forms h
 obtain ⟨p1,p2,p3,p4⟩:=fm_parts h
 have e:frm f.k=⟨true,false,false,0,0,0,6,0,0,0,0⟩:=by rw [hk];rfl
 rw [e] at hv htl hsl hrl p2 p3 p4
 simp only at hv htl hsl hrl p2 p3 p4
 have v0:f.vars=[]:=List.length_eq_zero_iff.1 (by omega)
 have b0:f.subs=[]:=List.length_eq_zero_iff.1 (by omega)
 have r0:f.rgx=[]:=List.length_eq_zero_iff.1 (by omega)
 have p2:nameB f.nm=true:=by simpa using p2
 have o0:=opB_un p3
 unfold itvB at p4
 rw [if_neg (by simp)] at p4
 unfold itvZ at p4
 simp only [Bool.and_eq_true,beq_iff_eq] at p4
 refine ⟨?_,p2⟩
 cases f
 simp only [Fm.k,Fm.nm,Fm.op,Fm.vars,Fm.terms,Fm.lo,Fm.hi,Fm.opn,Fm.subs,Fm.rgx] at*
 rw [hk,v0,b0,r0,o0,p4.1,p4.2.1,p4.2.2]
 rfl
theorem tkF_clos {f:Fm} (R:List (Tok Val)):clos (tkF f++R)=false:=by
 rw [tkF_eq]
 split
 ·rfl
 ·split<;>rfl
theorem tkR_clos {r:Rx} (R:List (Tok Val)):clos (tkR r++R)=false:=by
 rw [tkR_eq]
 split<;>rfl
theorem pred_empty {f:Fm} (hk:f.k=3):tk1 f=[]∧tk2 f=[wdT f.nm.data.toList]∧tk3 f=[]∧tk4 f=[]∧tk5 f=[]∧tk6 f=[]:=by
 unfold tk1 tk2 tk3 tk4 tk5 tk6
 rw [hk]
 exact ⟨rfl,rfl,rfl,rfl,rfl,rfl⟩
theorem back_FR (sz:Nat):∀ n:Nat,(∀ (f:Fm) (d:Int) (R:List (Tok Val)),(tkF f).length≤n→wfF f→d - 1+depF f≤24→(pFR sz n).1 d (tkF f++R)=.ok f R)∧(∀ (r:Rx) (d:Int) (R:List (Tok Val)),(tkR r).length≤n→wfR r→d - 1+depR r≤24→(pFR sz n).2 d (tkR r++R)=.ok r R):=by
 intro n
 induction n with
 | zero=>exact ⟨fun f d R hn=>by have:=tkF_pos f;omega,fun r d R hn=>by have:=tkR_pos r;omega⟩
 | succ n ih=>
  constructor
  ·intro f d R hn hw hd
   rw [wfF_eq] at hw
   rw [depF_eq] at hd
   obtain ⟨hE,hwt,hwr,hws⟩:=hw
   have hd':d≤24:=by omega
   obtain ⟨⟨k1,k2⟩, -⟩:=fm_forms hE
   show pForm sz n (pT sz n (d+1)) ((pFR sz n).1 (d+1)) ((pFR sz n).2 (d+1)) d (tkF f++R)=_
   unfold pForm
   rw [tkF_eq] at hn ⊢
   by_cases e1:f.k=1
   ·rw [if_pos e1,List.singleton_append,rBeg_ok hd',Rd.bind_ok,if_pos (wdT_x _),fm_true hE (Or.inl e1),e1]
   rw [if_neg e1] at hn ⊢
   by_cases e2:f.k=2
   ·rw [if_pos e2,List.singleton_append,rBeg_ok hd',Rd.bind_ok,if_neg (by decide),if_pos (wdT_x _),fm_true hE (Or.inr e2),e2]
   rw [if_neg e2] at hn ⊢
   have lt:=flat_len tkT tkT_pos f.terms
   have lr:=flat_len tkR tkR_pos f.rgx
   have ls:=flat_len tkF tkF_pos f.subs
   rw [← tkTs_map] at lt
   rw [← tkRs_map] at lr
   rw [← tkFs_map] at ls
   simp only [List.length_cons,List.length_append,List.length_nil] at hn
   have ht:∀ a∈f.terms,∀ R,pT sz n (d+1) (tkT a++R)=.ok a R:=fun a ha R=>back_T sz n a (d+1) R (by have:=lt.2 a ha;omega) (wfTs_mem hwt a ha) (by have:=depTs_mem a ha;omega)
   have hs:∀ a∈f.subs,∀ R,(pFR sz n).1 (d+1) (tkF a++R)=.ok a R:=fun a ha R=>ih.1 a (d+1) R (by have:=ls.2 a ha;omega) (wfFs_mem hws a ha) (by have:=depFs_mem a ha;omega)
   have hr:∀ a∈f.rgx,∀ R,(pFR sz n).2 (d+1) (tkR a++R)=.ok a R:=fun a ha R=>ih.2 a (d+1) R (by have:=lr.2 a ha;omega) (wfRs_mem hwr a ha) (by have:=depRs_mem a ha;omega)
   have ct:∀ a∈f.terms,∀ R,clos (tkT a++R)=false:=fun a ha R=>tk_clos (wfTs_mem hwt a ha) R
   rw [List.cons_append,rBeg_ok hd',Rd.bind_ok,if_neg (by decide),if_neg (by decide),if_pos opT_x]
   simp only [List.append_assoc,List.singleton_append]
   by_cases e3:f.k=3
   ·obtain ⟨q1,q2,q3,q4,q5,q6⟩:=pred_empty e3
    obtain ⟨ef,hnm⟩:=fm_pred hE e3
    have s0:f.subs=[]:=by rw [ef];rfl
    have r0:f.rgx=[]:=by rw [ef];rfl
    have hm:=many_back (pT sz n (d+1)) tkT true f.terms n 0 (clT::R) ht ct (fun _=>rfl) (by simp) (by rw [q2] at hn;simp at hn;omega)
    rw [← tkTs_map] at hm
    rw [q1,q2,q3,q4,q5,q6,s0,r0,tkFs,tkRs]
    simp only [List.nil_append,List.singleton_append]
    unfold pHead
    rw [rNext,Rd.bind_ok,txB_wd,if_pos hnm,hm,Rd.bind_ok,Rd.bind_ok,rExp,if_pos clT_x,Rd.bind_ok,← ef]
   ·have hkk:=head_not (k:=f.k) (by omega) k2
    have e1':tk1 f=[hdTk f.k]:=by unfold tk1;rw [if_neg e3]
    rw [e1'] at hn ⊢
    simp only [List.length_cons,List.length_nil] at hn
    unfold pHead
    rw [List.singleton_append,rNext,Rd.bind_ok,if_neg (by rw [hkk.1];simp),hkk.2]
    dsimp only
    rw [back_shaped hE (by omega) (clT::R) rfl ht hs hr ct (fun a _ R=>tkF_clos R) (fun a _ R=>tkR_clos R) (by omega) (by omega) (by omega),Rd.bind_ok,rExp,if_pos clT_x,Rd.bind_ok]
  ·intro r d R hn hw hd
   rw [wfR_eq] at hw
   rw [depR_eq] at hd
   obtain ⟨hE,hwt,hws⟩:=hw
   have hd':d≤24:=by omega
   obtain ⟨k1,k2,kt,ks⟩:=rx_facts hE
   show pRegex sz n ((pFR sz n).1 (d+1)) ((pFR sz n).2 (d+1)) d (tkR r++R)=_
   unfold pRegex
   rw [tkR_eq] at hn ⊢
   have lt:=flat_len tkF tkF_pos r.test
   have ls:=flat_len tkR tkR_pos r.subs
   rw [← tkFs_map] at lt
   rw [← tkRs_map] at ls
   by_cases e1:r.k=1
   ·rw [e1] at kt ks
    have t0:r.test=[]:=List.length_eq_zero_iff.1 kt
    have s0:r.subs=[]:=List.length_eq_zero_iff.1 ks
    rw [if_pos e1,List.singleton_append,rBeg_ok hd',Rd.bind_ok,if_pos (wdT_x _)]
    cases r
    simp only [Rx.k,Rx.test,Rx.subs] at*
    rw [e1,t0,s0]
    rfl
   rw [if_neg e1] at hn ⊢
   simp only [List.length_cons,List.length_append,List.length_nil] at hn
   have ht:∀ a∈r.test,∀ R,(pFR sz n).1 (d+1) (tkF a++R)=.ok a R:=fun a ha R=>ih.1 a (d+1) R (by have:=lt.2 a ha;omega) (wfFs_mem hwt a ha) (by have:=depFs_mem a ha;omega)
   have hs:∀ a∈r.subs,∀ R,(pFR sz n).2 (d+1) (tkR a++R)=.ok a R:=fun a ha R=>ih.2 a (d+1) R (by have:=ls.2 a ha;omega) (wfRs_mem hws a ha) (by have:=depRs_mem a ha;omega)
   rw [List.cons_append,rBeg_ok hd',Rd.bind_ok,if_neg (by decide),if_pos opT_x,List.cons_append]
   simp only [List.append_assoc,List.singleton_append]
   unfold pHeadR
   rw [rNext,Rd.bind_ok]
   have hcase:r.k=2∨r.k=3∨r.k=4∨r.k=5:=by omega
   have er:∀ k,r.k=k→r=rxO k r.test r.subs:=fun k e=>by cases r;simp only [Rx.k] at e;rw [e];rfl
   rcases hcase with e | e | e | e
   ·rw [e] at kt ks ⊢
    have s0:r.subs=[]:=List.length_eq_zero_iff.1 ks
    have hm:=many_back _ tkF false r.test n 1 (clT::R) ht (fun a _ R=>tkF_clos R) (fun e=>by cases e) (by simp [kt]) (by omega)
    rw [← tkFs_map] at hm
    rw [if_pos (wdT_x _),s0,tkRs,List.nil_append,hm,Rd.bind_ok,Rd.bind_ok,rExp,if_pos clT_x,Rd.bind_ok]
    have:=er 2 e
    rw [s0] at this
    rw [← this]
   ·rw [e] at kt ks ⊢
    have t0:r.test=[]:=List.length_eq_zero_iff.1 kt
    have hm:=many_back _ tkR false r.subs n 2 (clT::R) hs (fun a _ R=>tkR_clos R) (fun e=>by cases e) (by simp [ks]) (by omega)
    rw [← tkRs_map] at hm
    rw [if_neg (by decide),if_pos (wdT_x _),t0,tkFs,List.nil_append,hm,Rd.bind_ok,Rd.bind_ok,rExp,if_pos clT_x,Rd.bind_ok]
    have:=er 3 e
    rw [t0] at this
    rw [← this]
   ·rw [e] at kt ks ⊢
    have t0:r.test=[]:=List.length_eq_zero_iff.1 kt
    have hm:=many_back _ tkR false r.subs n 2 (clT::R) hs (fun a _ R=>tkR_clos R) (fun e=>by cases e) (by simp [ks]) (by omega)
    rw [← tkRs_map] at hm
    rw [if_neg (by decide),if_neg (by decide),if_pos (wdT_x _),t0,tkFs,List.nil_append,hm,Rd.bind_ok,Rd.bind_ok,rExp,if_pos clT_x,Rd.bind_ok]
    have:=er 4 e
    rw [t0] at this
    rw [← this]
   ·rw [e] at kt ks ⊢
    have t0:r.test=[]:=List.length_eq_zero_iff.1 kt
    have hm:=many_back _ tkR false r.subs n 1 (clT::R) hs (fun a _ R=>tkR_clos R) (fun e=>by cases e) (by simp [ks]) (by omega)
    rw [← tkRs_map] at hm
    rw [if_neg (by decide),if_neg (by decide),if_neg (by decide),if_pos (wdT_x _),t0,tkFs,List.nil_append,hm,Rd.bind_ok,Rd.bind_ok,rExp,if_pos clT_x,Rd.bind_ok]
    have:=er 5 e
    rw [t0] at this
    rw [← this]
theorem back_all {f:Fm} (hc:chkF f=0) (hf:ftF f) (sz:Nat):∃ L,T sdB (txF f) 0=(L,none)∧pAll sz L=.ok f []:=by
 obtain ⟨hw,hn,hd, -⟩:=(chk_iff f).1 hc
 obtain ⟨L,h1,h2⟩:=fm_tk hw hf 0
 refine ⟨L,h1, ?_⟩
 have hs:=sim_all sz 0 h2
 have hp:pAll 0 (tkF f)=.ok f []:=by
  unfold pAll
  have:=(back_FR 0 ((tkF f).length+1)).1 f 1 [] (by omega) hw (by omega)
  rw [List.append_nil] at this
  rw [this]
  rfl
 rw [hp] at hs
 cases hL:pAll sz L with
 | bad e a=>rw [hL] at hs;exact hs.elim
 | ok g r=>
  rw [hL] at hs
  obtain ⟨g1,g2⟩:=hs
  cases r with
  | nil=>rw [g1]
  | cons t r=>simp at g2
theorem beqI (a b:Int):(a==b)=(b==a):=by
 rw [Bool.eq_iff_iff,beq_iff_eq,beq_iff_eq]
 exact eq_comm
theorem beqL (a b:List UInt8):(a==b)=(b==a):=by
 rw [Bool.eq_iff_iff,beq_iff_eq,beq_iff_eq]
 exact eq_comm
theorem beqB (a b:Bool):(a==b)=(b==a):=by cases a<;>cases b<;>rfl
theorem same_val_comm (x y:Val):x.same y=y.same x:=by
 unfold Val.same sameB
 rw [beqI x.k,beqI x.n,beqI x.d,beqL x.s.toList]
theorem same_val_refl (x:Val):x.same x=true:=by
 unfold Val.same sameB
 simp
theorem tms_sym:∀ (m:Nat) (xs ys:List Tm),SizeOf.sizeOf xs≤m→sameTs xs ys=sameTs ys xs∧sameTs xs xs=true:=by
 intro m
 induction m with
 | zero=>intro xs ys hm;cases xs<;>simp at hm
 | succ m ih=>
  intro xs ys hm
  cases xs with
  | nil=>cases ys with
   | nil=>exact ⟨rfl,sameTs_nil⟩
   | cons y ys=>exact ⟨by rw [sameTs_len (by simp),sameTs_len (by simp)],sameTs_nil⟩
  | cons x xs=>
   have s1:SizeOf.sizeOf xs≤m:=by simp at hm;omega
   have s2:SizeOf.sizeOf x.subs≤m:=by have:=Tm.subs_lt x;simp at hm;omega
   refine ⟨?_, ?_⟩
   ·cases ys with
    | nil=>rw [sameTs_len (by simp),sameTs_len (by simp)]
    | cons y ys=>
     rw [sameTs_cons,sameTs_cons,sameT_eq,sameT_eq,(ih xs ys s1).1,(ih x.subs y.subs s2).1,same_val_comm,beqI x.k,beqL x.nm.toList]
   ·rw [sameTs_cons,sameT_eq,(ih xs xs s1).2,(ih x.subs x.subs s2).2,same_val_refl]
    simp
theorem both_sym:∀ m:Nat,(∀ xs ys:List Fm,SizeOf.sizeOf xs≤m→sameFs xs ys=sameFs ys xs∧sameFs xs xs=true)∧(∀ xs ys:List Rx,SizeOf.sizeOf xs≤m→sameRs xs ys=sameRs ys xs∧sameRs xs xs=true):=by
 intro m
 induction m with
 | zero=>exact ⟨fun xs ys hm=>by cases xs<;>simp at hm,fun xs ys hm=>by cases xs<;>simp at hm⟩
 | succ m ih=>
  constructor
  ·intro xs ys hm
   cases xs with
   | nil=>cases ys with
    | nil=>exact ⟨rfl,sameFs_nil⟩
    | cons y ys=>exact ⟨by rw [sameFs_len (by simp),sameFs_len (by simp)],sameFs_nil⟩
   | cons x xs=>
    have s1:SizeOf.sizeOf xs≤m:=by simp at hm;omega
    have s2:SizeOf.sizeOf x.subs≤m:=by have:=Fm.subs_lt x;simp at hm;omega
    have s3:SizeOf.sizeOf x.rgx≤m:=by have:=Fm.rgx_lt x;simp at hm;omega
    refine ⟨?_, ?_⟩
    ·cases ys with
     | nil=>rw [sameFs_len (by simp),sameFs_len (by simp)]
     | cons y ys=>
      rw [sameFs_cons,sameFs_cons,sameF_eq,sameF_eq,(ih.1 xs ys s1).1,(ih.1 x.subs y.subs s2).1,(ih.2 x.rgx y.rgx s3).1,(tms_sym _ x.terms y.terms (Nat.le_refl _)).1,beqI x.k,beqL x.nm.toList,beqI x.op,beqI x.lo,beqI x.hi,beqB x.opn]
      rw [show decide (x.vars=y.vars)=decide (y.vars=x.vars) by rw [decide_eq_decide];exact eq_comm]
    ·rw [sameFs_cons,sameF_eq,(ih.1 xs xs s1).2,(ih.1 x.subs x.subs s2).2,(ih.2 x.rgx x.rgx s3).2,(tms_sym _ x.terms x.terms (Nat.le_refl _)).2]
     simp
  ·intro xs ys hm
   cases xs with
   | nil=>cases ys with
    | nil=>exact ⟨rfl,sameRs_nil⟩
    | cons y ys=>exact ⟨by rw [sameRs_len (by simp),sameRs_len (by simp)],sameRs_nil⟩
   | cons x xs=>
    have s1:SizeOf.sizeOf xs≤m:=by simp at hm;omega
    have s2:SizeOf.sizeOf x.subs≤m:=by have:=Rx.subs_lt x;simp at hm;omega
    have s3:SizeOf.sizeOf x.test≤m:=by have:=Rx.test_lt x;simp at hm;omega
    refine ⟨?_, ?_⟩
    ·cases ys with
     | nil=>rw [sameRs_len (by simp),sameRs_len (by simp)]
     | cons y ys=>rw [sameRs_cons,sameRs_cons,sameR_eq,sameR_eq,(ih.2 xs ys s1).1,(ih.2 x.subs y.subs s2).1,(ih.1 x.test y.test s3).1,beqI x.k]
    ·rw [sameRs_cons,sameR_eq,(ih.2 xs xs s1).2,(ih.2 x.subs x.subs s2).2,(ih.1 x.test x.test s3).2]
     simp
theorem sameF_refl (x:Fm):sameF x x=true:=by
 rw [sameF_eq,((both_sym _).1 x.subs x.subs (Nat.le_refl _)).2,((both_sym _).2 x.rgx x.rgx (Nat.le_refl _)).2,(tms_sym _ x.terms x.terms (Nat.le_refl _)).2]
 simp
theorem bclL {n:Nat} {W0 wx:World} (h:Below n W0 wx) {a:Addr} {v:Value} (hv:W0.cell? a=some v) (ha:a.block<n):wx.cell? a=some v:=(h.cell ha).trans hv
theorem bytes_eq {x y:ByteArray}:(x.toList==y.toList)=decide (x=y):=by
 rw [ByteArray.toList_eq,ByteArray.toList_eq]
 by_cases h:x=y
 ·subst h;simp
 ·rw [decide_eq_false h]
  have:x.data.toList≠y.data.toList:=fun e=>h (by
   obtain ⟨⟨a⟩⟩:=x
   obtain ⟨⟨b⟩⟩:=y
   simp at e
   subst e
   rfl)
  simpa using this
theorem keepc7 {W0 W:World} {b b' o o':Nat} {u0 u1 u2 u3 u4 u5 u6 v0 v1 v2 v3 v4 v5 v6:Value} (h:Below W0.heap.size W0 W) (hx:b<W0.heap.size) (hy:b'<W0.heap.size) (hs:W0.cell? ⟨b,o,none⟩=some u0∧W0.cell? ⟨b,o+1,none⟩=some u1∧W0.cell? ⟨b,o+2,none⟩=some u2∧W0.cell? ⟨b,o+3,none⟩=some u3∧W0.cell? ⟨b,o+4,none⟩=some u4∧W0.cell? ⟨b,o+5,none⟩=some u5∧W0.cell? ⟨b,o+6,none⟩=some u6∧W0.cell? ⟨b',o',none⟩=some v0∧W0.cell? ⟨b',o'+1,none⟩=some v1∧W0.cell? ⟨b',o'+2,none⟩=some v2∧W0.cell? ⟨b',o'+3,none⟩=some v3∧W0.cell? ⟨b',o'+4,none⟩=some v4∧W0.cell? ⟨b',o'+5,none⟩=some v5∧W0.cell? ⟨b',o'+6,none⟩=some v6):W.cell? ⟨b,o,none⟩=some u0∧W.cell? ⟨b,o+1,none⟩=some u1∧W.cell? ⟨b,o+2,none⟩=some u2∧W.cell? ⟨b,o+3,none⟩=some u3∧W.cell? ⟨b,o+4,none⟩=some u4∧W.cell? ⟨b,o+5,none⟩=some u5∧W.cell? ⟨b,o+6,none⟩=some u6∧W.cell? ⟨b',o',none⟩=some v0∧W.cell? ⟨b',o'+1,none⟩=some v1∧W.cell? ⟨b',o'+2,none⟩=some v2∧W.cell? ⟨b',o'+3,none⟩=some v3∧W.cell? ⟨b',o'+4,none⟩=some v4∧W.cell? ⟨b',o'+5,none⟩=some v5∧W.cell? ⟨b',o'+6,none⟩=some v6:=by
 obtain ⟨a0,a1,a2,a3,a4,a5,a6,a7,a8,a9,a10,a11,a12,a13⟩:=hs
 exact ⟨bclL h a0 hx,bclL h a1 hx,bclL h a2 hx,bclL h a3 hx,bclL h a4 hx,bclL h a5 hx,bclL h a6 hx,bclL h a7 hy,bclL h a8 hy,bclL h a9 hy,bclL h a10 hy,bclL h a11 hy,bclL h a12 hy,bclL h a13 hy⟩
theorem keepc10 {W0 W:World} {b b' o o':Nat} {u0 u1 u2 u3 u4 u5 u6 u7 u8 u9 v0 v1 v2 v3 v4 v5 v6 v7 v8 v9:Value} (h:Below W0.heap.size W0 W) (hx:b<W0.heap.size) (hy:b'<W0.heap.size) (hs:W0.cell? ⟨b,o,none⟩=some u0∧W0.cell? ⟨b,o+1,none⟩=some u1∧W0.cell? ⟨b,o+2,none⟩=some u2∧W0.cell? ⟨b,o+3,none⟩=some u3∧W0.cell? ⟨b,o+4,none⟩=some u4∧W0.cell? ⟨b,o+5,none⟩=some u5∧W0.cell? ⟨b,o+6,none⟩=some u6∧W0.cell? ⟨b,o+7,none⟩=some u7∧W0.cell? ⟨b,o+8,none⟩=some u8∧W0.cell? ⟨b,o+9,none⟩=some u9∧W0.cell? ⟨b',o',none⟩=some v0∧W0.cell? ⟨b',o'+1,none⟩=some v1∧W0.cell? ⟨b',o'+2,none⟩=some v2∧W0.cell? ⟨b',o'+3,none⟩=some v3∧W0.cell? ⟨b',o'+4,none⟩=some v4∧W0.cell? ⟨b',o'+5,none⟩=some v5∧W0.cell? ⟨b',o'+6,none⟩=some v6∧W0.cell? ⟨b',o'+7,none⟩=some v7∧W0.cell? ⟨b',o'+8,none⟩=some v8∧W0.cell? ⟨b',o'+9,none⟩=some v9):W.cell? ⟨b,o,none⟩=some u0∧W.cell? ⟨b,o+1,none⟩=some u1∧W.cell? ⟨b,o+2,none⟩=some u2∧W.cell? ⟨b,o+3,none⟩=some u3∧W.cell? ⟨b,o+4,none⟩=some u4∧W.cell? ⟨b,o+5,none⟩=some u5∧W.cell? ⟨b,o+6,none⟩=some u6∧W.cell? ⟨b,o+7,none⟩=some u7∧W.cell? ⟨b,o+8,none⟩=some u8∧W.cell? ⟨b,o+9,none⟩=some u9∧W.cell? ⟨b',o',none⟩=some v0∧W.cell? ⟨b',o'+1,none⟩=some v1∧W.cell? ⟨b',o'+2,none⟩=some v2∧W.cell? ⟨b',o'+3,none⟩=some v3∧W.cell? ⟨b',o'+4,none⟩=some v4∧W.cell? ⟨b',o'+5,none⟩=some v5∧W.cell? ⟨b',o'+6,none⟩=some v6∧W.cell? ⟨b',o'+7,none⟩=some v7∧W.cell? ⟨b',o'+8,none⟩=some v8∧W.cell? ⟨b',o'+9,none⟩=some v9:=by
 obtain ⟨a0,a1,a2,a3,a4,a5,a6,a7,a8,a9,a10,a11,a12,a13,a14,a15,a16,a17,a18,a19⟩:=hs
 exact ⟨bclL h a0 hx,bclL h a1 hx,bclL h a2 hx,bclL h a3 hx,bclL h a4 hx,bclL h a5 hx,bclL h a6 hx,bclL h a7 hx,bclL h a8 hx,bclL h a9 hx,bclL h a10 hy,bclL h a11 hy,bclL h a12 hy,bclL h a13 hy,bclL h a14 hy,bclL h a15 hy,bclL h a16 hy,bclL h a17 hy,bclL h a18 hy,bclL h a19 hy⟩
def nmS:List ByteArray→List ByteArray→Bool
 | [],[]=>true
 | [],_::_=>false
 | _::_,[]=>false
 | x::l,y::m=>(x.toList==y.toList) && nmS l m
theorem nmS_eq:∀ xs ys:List ByteArray,nmS xs ys=decide (xs=ys)
 | [],[]=>rfl
 | [],_::_=>rfl
 | _::_,[]=>rfl
 | x::l,y::m=>by
  rw [nmS,bytes_eq,nmS_eq l m]
  by_cases h1:x=y<;>by_cases h2:l=m<;>simp [h1,h2]
theorem nmS_len {xs ys:List ByteArray} (h:xs.length≠ys.length):nmS xs ys=false:=by
 rw [nmS_eq]
 exact decide_eq_false (fun e=>h (by rw [e]))
theorem rnms_any (A B:Value) (xs ys:List ByteArray) (w:World) (hA:NmsAt w A xs) (hB:NmsAt w B ys):Calls Tryz.prog 25 #[A,B] w fun e w'=>e=.returned (.bool (decide (xs=ys)))∧Below w.heap.size w w':=by
 rw [← nmS_eq]
 obtain ⟨p,c,rfl,lx,hc,HX0⟩:=hA.form
 obtain ⟨p',c',rfl,ly,hc',HY0⟩:=hB.form
 by_cases hl:xs.length=ys.length
 case neg=>
  have h2:((xs.length:Int)==ys.length)=false:=by simp;omega
  have HS:Hid (nmS xs ys=false):=nmS_len hl
  clear HX0 HY0 hA hB
  generalize xs.length=n at*
  generalize ys.length=m at*
  go_enter Tryz.func25,Tryz.ntmps25
  go_wp2
  go_ret
  exact ⟨ret_bool HS.out.symm,by go_grown⟩
 have HX:Hid (∀ i (hi:i<xs.length),∃ b off,p=some ⟨b,off,none⟩∧b<w.heap.size∧w.cell? ⟨b,off+i,none⟩=some (.string xs[i])):=HX0
 have HY:Hid (∀ i (hi:i<ys.length),∃ b off,p'=some ⟨b,off,none⟩∧b<w.heap.size∧w.cell? ⟨b,off+i,none⟩=some (.string ys[i])):=HY0
 obtain ⟨n,en⟩:∃ n:Nat,Hid (xs.length=n):=⟨_,rfl⟩
 have em:Hid (ys.length=n):=hl.symm.trans en.out
 rw [en.out] at lx hc ⊢
 rw [em.out] at hc' ⊢
 clear HX0 HY0 hA hB ly hl
 go_enter Tryz.func25,Tryz.ntmps25
 go_wp2
 go_loopw [5] (fun i wr=>∃ k:Nat,k≤n∧i=.int .i64 k∧Hid (nmS xs ys=nmS (xs.drop k) (ys.drop k))∧Below w.heap.size w wr) (fun i _=>n - (intOf i).toNat)
 case atStart=>exact ⟨0,Nat.zero_le _,rfl,(show nmS xs ys=nmS (xs.drop 0) (ys.drop 0) by simp),Below.refl _ _⟩
 case round=>
  obtain ⟨k,hk,rfl,hr,hB⟩:=hrel
  by_cases hlt:k<n
  case neg=>
   have c2:¬ (k:Int)<n:=by omega
   have hr3:Hid (nmS xs ys=true):=by
    have h:=hr.out
    rw [List.drop_eq_nil_of_le (by have:=en.out;omega),List.drop_eq_nil_of_le (by have:=em.out;omega)] at h
    exact h
   go_wp2
   go_ret
   exact ⟨ret_bool hr3.out.symm,hB⟩
  have hlt':(k:Int)<n:=by omega
  have kx:k<xs.length:=by have:=en.out;omega
  have ky:k<ys.length:=by have:=em.out;omega
  obtain ⟨b,off,rfl,hb,a0⟩:=HX.out k kx
  obtain ⟨b',off',rfl,hb',b0⟩:=HY.out k ky
  have a1:=(hB.cell (p:=⟨b,off+k,none⟩) hb).trans a0
  have b1:=(hB.cell (p:=⟨b',off'+k,none⟩) hb').trans b0
  have hr2:Hid (nmS xs ys=((xs[k].toList==ys[k].toList) && nmS (xs.drop (k+1)) (ys.drop (k+1)))):=by
   have h:=hr.out
   rw [List.drop_eq_getElem_cons kx,List.drop_eq_getElem_cons ky,nmS] at h
   exact h
  clear a0 b0 hr
  generalize xs[k]=X at*
  generalize ys[k]=Y at*
  by_cases he:(X.toList==Y.toList)=true
  ·have hne:(!X.toList==Y.toList)=false:=by simp [he]
   have hr3:Hid (nmS xs ys=nmS (xs.drop (k+1)) (ys.drop (k+1))):=by have h:=hr2.out;rw [he,Bool.true_and] at h;exact h
   clear hr2
   go_upto_region 6 with fail
   go_quiet (fail)
   go_wp2
   exact ⟨⟨k+1,by omega,by go_num,hr3,bdrewA _ hB⟩,by simp [intOf];omega⟩
  ·have he':(X.toList==Y.toList)=false:=by simpa using he
   have hne:(!X.toList==Y.toList)=true:=by simp [he']
   have hr3:Hid (nmS xs ys=false):=by have h:=hr2.out;rw [he',Bool.false_and] at h;exact h
   clear hr2 he
   go_upto_region 6 with fail
   go_quiet (fail)
   go_wp2
   go_ret
   exact ⟨ret_bool hr3.out.symm,bdrewA _ hB⟩
theorem rsamet_step (x y:Tm) (u v:Value) (w:World) (hu:TmsAt w u x.subs) (hv:TmsAt w v y.subs) (IH:∀ W:World,Below w.heap.size w W→Calls Tryz.prog 26 #[u,v] W fun e w'=>e=.returned (.bool (sameTs x.subs y.subs))∧Below W.heap.size W w'):
  Calls Tryz.prog 60 #[.agg #[.int .i64 x.k,.string x.nm,.int .i64 x.v.k,.int .i64 x.v.n,.int .i64 x.v.d,.string x.v.s,u],.agg #[.int .i64 y.k,.string y.nm,.int .i64 y.v.k,.int .i64 y.v.n,.int .i64 y.v.d,.string y.v.s,v]] w fun e w'=>e=.returned (.bool (sameT x y))∧Below w.heap.size w w':=by
 have cV:Hid (∀ W:World,Calls Tryz.prog 107 #[.agg #[.int .i64 x.v.k,.int .i64 x.v.n,.int .i64 x.v.d,.string x.v.s],.agg #[.int .i64 y.v.k,.int .i64 y.v.n,.int .i64 y.v.d,.string y.v.s]] W fun e w'=>e=.returned (.bool (x.v.same y.v))∧Below W.heap.size W w'):=fun W=>rsame_any x.v.k x.v.n x.v.d x.v.s y.v.k y.v.n y.v.d y.v.s W
 have cI:Hid (∀ W:World,Below w.heap.size w W→Calls Tryz.prog 26 #[u,v] W fun e w'=>e=.returned (.bool (sameTs x.subs y.subs))∧Below W.heap.size W w'):=IH
 have hE:Hid (sameT x y=((x.k==y.k) && ((x.nm.toList==y.nm.toList) && (x.v.same y.v && sameTs x.subs y.subs)))):=sameT_eq x y
 obtain ⟨pu,cu,rfl, -⟩:=hu.form
 obtain ⟨pv,cv,rfl, -⟩:=hv.form
 clear hu hv IH
 generalize sameT x y=R at*
 generalize sameTs x.subs y.subs=D at*
 generalize x.v.same y.v=C at*
 generalize x.k=xg_k at*
 generalize y.k=yg_k at*
 generalize x.nm=xg_nm at*
 generalize y.nm=yg_nm at*
 generalize x.v.k=xg_vk at*
 generalize y.v.k=yg_vk at*
 generalize x.v.n=xg_vn at*
 generalize y.v.n=yg_vn at*
 generalize x.v.d=xg_vd at*
 generalize y.v.d=yg_vd at*
 generalize x.v.s=xg_vs at*
 generalize y.v.s=yg_vs at*
 generalize x.subs.length=xg_subslength at*
 generalize y.subs.length=yg_subslength at*
 go_enter Tryz.func60,Tryz.ntmps60
 go_wp2_with fail
 refine (cV.out _).mono ?_
 rintro e w1 ⟨rfl,hw1⟩
 obtain ⟨hB1,hn1⟩:=bgX (n:=w.heap.size) (W0:=w) (by go_grown) (by go_size) hw1
 have e0:w1.cell? ⟨w.heap.size,0,none⟩=some (.int .i64 xg_k):=(hw1.cell (p:=⟨w.heap.size,0,none⟩) (by first | (simp;done) | (simp;omega))).trans (by simp [go_sem])
 have e1:w1.cell? ⟨w.heap.size,1,none⟩=some (.string xg_nm):=(hw1.cell (p:=⟨w.heap.size,1,none⟩) (by first | (simp;done) | (simp;omega))).trans (by simp [go_sem])
 have e6:w1.cell? ⟨w.heap.size,6,none⟩=some (.slice pu xg_subslength cu):=(hw1.cell (p:=⟨w.heap.size,6,none⟩) (by first | (simp;done) | (simp;omega))).trans (by simp [go_sem])
 have g0:w1.cell? ⟨w.heap.size+1,0,none⟩=some (.int .i64 yg_k):=(hw1.cell (p:=⟨w.heap.size+1,0,none⟩) (by first | (simp;done) | (simp;omega))).trans (by simp [go_sem])
 have g1:w1.cell? ⟨w.heap.size+1,1,none⟩=some (.string yg_nm):=(hw1.cell (p:=⟨w.heap.size+1,1,none⟩) (by first | (simp;done) | (simp;omega))).trans (by simp [go_sem])
 have g6:w1.cell? ⟨w.heap.size+1,6,none⟩=some (.slice pv yg_subslength cv):=(hw1.cell (p:=⟨w.heap.size+1,6,none⟩) (by first | (simp;done) | (simp;omega))).trans (by simp [go_sem])
 clear hw1 cV
 by_cases h1:(xg_k==yg_k)=true
 case neg=>
  have h1':(xg_k==yg_k)=false:=by simpa using h1
  have hR:Hid (R=false):=by have h:=hE.out;rw [h1'] at h;simp at h;exact h
  clear h1
  go_wp2
  go_ret
  exact ⟨ret_bool hR.out.symm,hB1⟩
 by_cases h2:(xg_nm.toList==yg_nm.toList)=true
 case neg=>
  have h2':(xg_nm.toList==yg_nm.toList)=false:=by simpa using h2
  have hR:Hid (R=false):=by have h:=hE.out;rw [h2'] at h;simp at h;exact h
  clear h2
  go_wp2
  go_ret
  exact ⟨ret_bool hR.out.symm,hB1⟩
 cases C with
 | false=>
  have hR:Hid (R=false):=by have h:=hE.out;simp at h;exact h
  go_wp2
  go_ret
  exact ⟨ret_bool hR.out.symm,hB1⟩
 | true=>
  have hR:Hid (R=D):=by have h:=hE.out;rw [h1,h2] at h;simp at h;exact h
  go_wp2_with fail
  refine (cI.out _ hB1).mono ?_
  rintro e w2 ⟨rfl,hw2⟩
  have hB2:Below w.heap.size w w2:=hB1.trans (hw2.mono hn1)
  clear hw2 cI e0 e1 e6 g0 g1 g6
  cases D with
  | false=>
   go_wp2
   go_ret
   exact ⟨ret_bool hR.out.symm,hB2⟩
  | true=>
   go_wp2
   go_ret
   exact ⟨ret_bool hR.out.symm,hB2⟩
theorem rsameTs_step (A B:Value) (xs ys:List Tm) (w:World) (hA:TmsAt w A xs) (hB:TmsAt w B ys) (HC:∀ i (hi:i<xs.length) (hi':i<ys.length) (u u':Value) (W:World),TmsAt w u xs[i].subs→TmsAt w u' ys[i].subs→Below w.heap.size w W→Calls Tryz.prog 60 #[.agg #[.int .i64 xs[i].k,.string xs[i].nm,.int .i64 xs[i].v.k,.int .i64 xs[i].v.n,.int .i64 xs[i].v.d,.string xs[i].v.s,u],.agg #[.int .i64 ys[i].k,.string ys[i].nm,.int .i64 ys[i].v.k,.int .i64 ys[i].v.n,.int .i64 ys[i].v.d,.string ys[i].v.s,u']] W fun e w'=>e=.returned (.bool (sameT xs[i] ys[i]))∧Below W.heap.size W w'):
  Calls Tryz.prog 26 #[A,B] w fun e w'=>e=.returned (.bool (sameTs xs ys))∧Below w.heap.size w w':=by
 obtain ⟨p,c,rfl,lx,hc,HX0⟩:=hA.form
 obtain ⟨p',c',rfl,ly,hc',HY0⟩:=hB.form
 by_cases hl:xs.length=ys.length
 case neg=>
  have h2:((xs.length:Int)==ys.length)=false:=by simp;omega
  have HS:Hid (sameTs xs ys=false):=sameTs_len hl
  clear HX0 HY0 hA hB HC
  generalize xs.length=n at*
  generalize ys.length=m at*
  go_enter Tryz.func26,Tryz.ntmps26
  go_wp2
  go_ret
  exact ⟨ret_bool HS.out.symm,by go_grown⟩
 have HX:Hid (∀ i (hi:i<xs.length),∃ b off u,p=some ⟨b,off,none⟩∧b<w.heap.size∧TmC w b (off+i*7) xs[i] u∧TmsAt w u xs[i].subs∧xs[i].v.Fits):=HX0
 have HY:Hid (∀ i (hi:i<ys.length),∃ b off u,p'=some ⟨b,off,none⟩∧b<w.heap.size∧TmC w b (off+i*7) ys[i] u∧TmsAt w u ys[i].subs∧ys[i].v.Fits):=HY0
 have HCC:Hid (∀ i (hi:i<xs.length) (hi':i<ys.length) (u u':Value) (W:World),TmsAt w u xs[i].subs→TmsAt w u' ys[i].subs→Below w.heap.size w W→Calls Tryz.prog 60 #[.agg #[.int .i64 xs[i].k,.string xs[i].nm,.int .i64 xs[i].v.k,.int .i64 xs[i].v.n,.int .i64 xs[i].v.d,.string xs[i].v.s,u],.agg #[.int .i64 ys[i].k,.string ys[i].nm,.int .i64 ys[i].v.k,.int .i64 ys[i].v.n,.int .i64 ys[i].v.d,.string ys[i].v.s,u']] W fun e w'=>e=.returned (.bool (sameT xs[i] ys[i]))∧Below W.heap.size W w'):=HC
 obtain ⟨n,en⟩:∃ n:Nat,Hid (xs.length=n):=⟨_,rfl⟩
 have em:Hid (ys.length=n):=hl.symm.trans en.out
 rw [en.out] at lx hc ⊢
 rw [em.out] at hc' ⊢
 clear hA hB hl ly HX0 HY0 HC
 go_enter Tryz.func26,Tryz.ntmps26
 go_wp2
 go_loopw [5] (fun i wr=>∃ k:Nat,k≤n∧i=.int .i64 k∧Hid (sameTs xs ys=sameTs (xs.drop k) (ys.drop k))∧Below w.heap.size w wr) (fun i _=>n - (intOf i).toNat)
 case atStart=>exact ⟨0,Nat.zero_le _,rfl,(show sameTs xs ys=sameTs (xs.drop 0) (ys.drop 0) by simp),Below.refl _ _⟩
 case round=>
  obtain ⟨k,hk,rfl,hr,hB⟩:=hrel
  have hsz:=hB.size
  by_cases hlt:k<n
  case neg=>
   have c2:¬ (k:Int)<n:=by omega
   have hr3:Hid (sameTs xs ys=true):=by
    have h:=hr.out
    rw [List.drop_eq_nil_of_le (by have:=en.out;omega),List.drop_eq_nil_of_le (by have:=em.out;omega),sameTs_nil] at h
    exact h
   go_wp2
   go_ret
   exact ⟨ret_bool hr3.out.symm,hB⟩
  have hlt':(k:Int)<n:=by omega
  have kx:k<xs.length:=by have:=en.out;omega
  have ky:k<ys.length:=by have:=em.out;omega
  obtain ⟨b,off,u,rfl,hb,TC,TS,TF⟩:=HX.out k kx
  obtain ⟨b',off',u',rfl,hb',TC',TS',TF'⟩:=HY.out k ky
  obtain ⟨a0,a1,a2,a3,a4,a5,a6⟩:=TC.below hB hb
  obtain ⟨b0,b1,b2,b3,b4,b5,b6⟩:=TC'.below hB hb'
  have hbr:b<wr.heap.size:=Nat.lt_of_lt_of_le hb hsz
  have hbr':b'<wr.heap.size:=Nat.lt_of_lt_of_le hb' hsz
  have hr2:Hid (sameTs xs ys=(sameT xs[k] ys[k] && sameTs (xs.drop (k+1)) (ys.drop (k+1)))):=by
   have h:=hr.out
   rw [List.drop_eq_getElem_cons kx,List.drop_eq_getElem_cons ky,sameTs_cons] at h
   exact h
  have cCT:Hid (∀ W:World,Below w.heap.size w W→Calls Tryz.prog 60 #[.agg #[.int .i64 xs[k].k,.string xs[k].nm,.int .i64 xs[k].v.k,.int .i64 xs[k].v.n,.int .i64 xs[k].v.d,.string xs[k].v.s,u],.agg #[.int .i64 ys[k].k,.string ys[k].nm,.int .i64 ys[k].v.k,.int .i64 ys[k].v.n,.int .i64 ys[k].v.d,.string ys[k].v.s,u']] W fun e w'=>e=.returned (.bool (sameT xs[k] ys[k]))∧Below W.heap.size W w'):=fun W hW=>HCC.out k kx ky u u' W TS TS' hW
  clear hr TC TC'
  obtain ⟨pu,cu,rfl, -⟩:=TS.form
  obtain ⟨pu',cu',rfl, -⟩:=TS'.form
  clear TS TF TS' TF'
  generalize sameT xs[k] ys[k]=C at*
  generalize xs[k].k=xg_k at*
  generalize ys[k].k=yg_k at*
  generalize xs[k].nm=xg_nm at*
  generalize ys[k].nm=yg_nm at*
  generalize xs[k].v.k=xg_vk at*
  generalize ys[k].v.k=yg_vk at*
  generalize xs[k].v.n=xg_vn at*
  generalize ys[k].v.n=yg_vn at*
  generalize xs[k].v.d=xg_vd at*
  generalize ys[k].v.d=yg_vd at*
  generalize xs[k].v.s=xg_vs at*
  generalize ys[k].v.s=yg_vs at*
  generalize xs[k].subs.length=xg_subslength at*
  generalize ys[k].subs.length=yg_subslength at*
  go_upto_region 6 with fail
  have HS:Hid (wr.cell? ⟨b,off+k*7,none⟩=some (.int .i64 xg_k)∧wr.cell? ⟨b,off+k*7+1,none⟩=some (.string xg_nm)∧wr.cell? ⟨b,off+k*7+2,none⟩=some (.int .i64 xg_vk)∧wr.cell? ⟨b,off+k*7+3,none⟩=some (.int .i64 xg_vn)∧wr.cell? ⟨b,off+k*7+4,none⟩=some (.int .i64 xg_vd)∧wr.cell? ⟨b,off+k*7+5,none⟩=some (.string xg_vs)∧wr.cell? ⟨b,off+k*7+6,none⟩=some (.slice pu xg_subslength cu)∧wr.cell? ⟨b',off'+k*7,none⟩=some (.int .i64 yg_k)∧wr.cell? ⟨b',off'+k*7+1,none⟩=some (.string yg_nm)∧wr.cell? ⟨b',off'+k*7+2,none⟩=some (.int .i64 yg_vk)∧wr.cell? ⟨b',off'+k*7+3,none⟩=some (.int .i64 yg_vn)∧wr.cell? ⟨b',off'+k*7+4,none⟩=some (.int .i64 yg_vd)∧wr.cell? ⟨b',off'+k*7+5,none⟩=some (.string yg_vs)∧wr.cell? ⟨b',off'+k*7+6,none⟩=some (.slice pu' yg_subslength cu')):=⟨a0,a1,a2,a3,a4,a5,a6,b0,b1,b2,b3,b4,b5,b6⟩
  go_region_held3 (fun W=>W.cell? ⟨b,off+k*7,none⟩=some (.int .i64 xg_k)∧W.cell? ⟨b,off+k*7+1,none⟩=some (.string xg_nm)∧W.cell? ⟨b,off+k*7+2,none⟩=some (.int .i64 xg_vk)∧W.cell? ⟨b,off+k*7+3,none⟩=some (.int .i64 xg_vn)∧W.cell? ⟨b,off+k*7+4,none⟩=some (.int .i64 xg_vd)∧W.cell? ⟨b,off+k*7+5,none⟩=some (.string xg_vs)∧W.cell? ⟨b,off+k*7+6,none⟩=some (.slice pu xg_subslength cu)∧W.cell? ⟨b',off'+k*7,none⟩=some (.int .i64 yg_k)∧W.cell? ⟨b',off'+k*7+1,none⟩=some (.string yg_nm)∧W.cell? ⟨b',off'+k*7+2,none⟩=some (.int .i64 yg_vk)∧W.cell? ⟨b',off'+k*7+3,none⟩=some (.int .i64 yg_vn)∧W.cell? ⟨b',off'+k*7+4,none⟩=some (.int .i64 yg_vd)∧W.cell? ⟨b',off'+k*7+5,none⟩=some (.string yg_vs)∧W.cell? ⟨b',off'+k*7+6,none⟩=some (.slice pu' yg_subslength cu'))
   (exact keepc7 (by go_grown) hbr hbr' HS.out)
   (first
    | (go_at_call 60;refine (cCT.out _ (hB.trans (by go_grown))).mono ?_;rintro e v1 ⟨rfl,hb1⟩;obtain ⟨hX1,hn1⟩:=bgX (n:=wr.heap.size) (W0:=wr) (by go_grown) (by go_size) hb1;clear hb1))
  have hB2:Hid (Below w.heap.size w v1):=hB.trans (hX1.mono hsz)
  clear a0 a1 a2 a3 a4 a5 a6 b0 b1 b2 b3 b4 b5 b6 cCT hX1 hn1
  cases C with
  | true=>
   have hr3:Hid (sameTs xs ys=sameTs (xs.drop (k+1)) (ys.drop (k+1))):=by have:=hr2.out;rwa [Bool.true_and] at this
   go_wp2
   exact ⟨⟨k+1,by omega,by go_num,hr3,hB2.out⟩,by simp [intOf];omega⟩
  | false=>
   have hr3:Hid (sameTs xs ys=false):=by have:=hr2.out;rwa [Bool.false_and] at this
   go_wp2
   go_ret
   exact ⟨ret_bool hr3.out.symm,hB2.out⟩
theorem rsame_tms:∀ (m:Nat) (xs ys:List Tm) (A B:Value) (w:World),SizeOf.sizeOf xs≤m→TmsAt w A xs→TmsAt w B ys→Calls Tryz.prog 26 #[A,B] w fun e w'=>e=.returned (.bool (sameTs xs ys))∧Below w.heap.size w w':=by
 intro m
 induction m with
 | zero=>intro xs ys A B w hm;cases xs<;>simp at hm
 | succ m ih=>
  intro xs ys A B w hm hA hB
  exact rsameTs_step A B xs ys w hA hB fun i hi hi' u u' W h1 h2 hW=>rsamet_step xs[i] ys[i] u u' W (h1.bel hW) (h2.bel hW) fun W' hW'=>ih _ _ _ _ W' (by have:=mem_lt i hi;have:=Tm.subs_lt xs[i];omega) ((h1.bel hW).bel hW') ((h2.bel hW).bel hW')
theorem rsameFs_step (A B:Value) (xs ys:List Fm) (w:World) (hA:FmsAt w A xs) (hB:FmsAt w B ys) (HC:∀ i (hi:i<xs.length) (hi':i<ys.length) (q q':FQ) (W:World),QAt w (xs[i],q)→QAt w (ys[i],q')→Below w.heap.size w W→Calls Tryz.prog 14 #[.agg #[.int .i64 xs[i].k,.string xs[i].nm,.int .i64 xs[i].op,q.v,q.t,.int .i64 xs[i].lo,.int .i64 xs[i].hi,.bool xs[i].opn,q.s,q.r],.agg #[.int .i64 ys[i].k,.string ys[i].nm,.int .i64 ys[i].op,q'.v,q'.t,.int .i64 ys[i].lo,.int .i64 ys[i].hi,.bool ys[i].opn,q'.s,q'.r]] W fun e w'=>e=.returned (.bool (sameF xs[i] ys[i]))∧Below W.heap.size W w'):
  Calls Tryz.prog 28 #[A,B] w fun e w'=>e=.returned (.bool (sameFs xs ys))∧Below w.heap.size w w':=by
 obtain ⟨p,c,rfl,lx,hc,HX0⟩:=hA.form
 obtain ⟨p',c',rfl,ly,hc',HY0⟩:=hB.form
 by_cases hl:xs.length=ys.length
 case neg=>
  have h2:((xs.length:Int)==ys.length)=false:=by simp;omega
  have HS:Hid (sameFs xs ys=false):=sameFs_len hl
  clear HX0 HY0 hA hB HC
  generalize xs.length=n at*
  generalize ys.length=m at*
  go_enter Tryz.func28,Tryz.ntmps28
  go_wp2
  go_ret
  exact ⟨ret_bool HS.out.symm,by go_grown⟩
 have HX:Hid (∀ i (hi:i<xs.length),∃ b off uv ut us ur,p=some ⟨b,off,none⟩∧b<w.heap.size∧FmC w b (off+i*10) xs[i] uv ut us ur∧NmsAt w uv xs[i].vars∧TmsAt w ut xs[i].terms∧FmsAt w us xs[i].subs∧RxsAt w ur xs[i].rgx):=HX0
 have HY:Hid (∀ i (hi:i<ys.length),∃ b off uv ut us ur,p'=some ⟨b,off,none⟩∧b<w.heap.size∧FmC w b (off+i*10) ys[i] uv ut us ur∧NmsAt w uv ys[i].vars∧TmsAt w ut ys[i].terms∧FmsAt w us ys[i].subs∧RxsAt w ur ys[i].rgx):=HY0
 have HCC:Hid (∀ i (hi:i<xs.length) (hi':i<ys.length) (q q':FQ) (W:World),QAt w (xs[i],q)→QAt w (ys[i],q')→Below w.heap.size w W→Calls Tryz.prog 14 #[.agg #[.int .i64 xs[i].k,.string xs[i].nm,.int .i64 xs[i].op,q.v,q.t,.int .i64 xs[i].lo,.int .i64 xs[i].hi,.bool xs[i].opn,q.s,q.r],.agg #[.int .i64 ys[i].k,.string ys[i].nm,.int .i64 ys[i].op,q'.v,q'.t,.int .i64 ys[i].lo,.int .i64 ys[i].hi,.bool ys[i].opn,q'.s,q'.r]] W fun e w'=>e=.returned (.bool (sameF xs[i] ys[i]))∧Below W.heap.size W w'):=HC
 obtain ⟨n,en⟩:∃ n:Nat,Hid (xs.length=n):=⟨_,rfl⟩
 have em:Hid (ys.length=n):=hl.symm.trans en.out
 rw [en.out] at lx hc ⊢
 rw [em.out] at hc' ⊢
 clear hA hB hl ly HX0 HY0 HC
 go_enter Tryz.func28,Tryz.ntmps28
 go_wp2
 go_loopw [5] (fun i wr=>∃ k:Nat,k≤n∧i=.int .i64 k∧Hid (sameFs xs ys=sameFs (xs.drop k) (ys.drop k))∧Below w.heap.size w wr) (fun i _=>n - (intOf i).toNat)
 case atStart=>exact ⟨0,Nat.zero_le _,rfl,(show sameFs xs ys=sameFs (xs.drop 0) (ys.drop 0) by simp),Below.refl _ _⟩
 case round=>
  obtain ⟨k,hk,rfl,hr,hB⟩:=hrel
  have hsz:=hB.size
  by_cases hlt:k<n
  case neg=>
   have c2:¬ (k:Int)<n:=by omega
   have hr3:Hid (sameFs xs ys=true):=by
    have h:=hr.out
    rw [List.drop_eq_nil_of_le (by have:=en.out;omega),List.drop_eq_nil_of_le (by have:=em.out;omega),sameFs_nil] at h
    exact h
   go_wp2
   go_ret
   exact ⟨ret_bool hr3.out.symm,hB⟩
  have hlt':(k:Int)<n:=by omega
  have kx:k<xs.length:=by have:=en.out;omega
  have ky:k<ys.length:=by have:=em.out;omega
  obtain ⟨b,off,uv,ut,us,ur,rfl,hb,TC,FV,FT,FS,FR⟩:=HX.out k kx
  obtain ⟨b',off',uv',ut',us',ur',rfl,hb',TC',FV',FT',FS',FR'⟩:=HY.out k ky
  obtain ⟨a0,a1,a2,a3,a4,a5,a6,a7,a8,a9⟩:=TC.below hB hb
  obtain ⟨b0,b1,b2,b3,b4,b5,b6,b7,b8,b9⟩:=TC'.below hB hb'
  have hbr:b<wr.heap.size:=Nat.lt_of_lt_of_le hb hsz
  have hbr':b'<wr.heap.size:=Nat.lt_of_lt_of_le hb' hsz
  have hr2:Hid (sameFs xs ys=(sameF xs[k] ys[k] && sameFs (xs.drop (k+1)) (ys.drop (k+1)))):=by
   have h:=hr.out
   rw [List.drop_eq_getElem_cons kx,List.drop_eq_getElem_cons ky,sameFs_cons] at h
   exact h
  have cCT:Hid (∀ W:World,Below w.heap.size w W→Calls Tryz.prog 14 #[.agg #[.int .i64 xs[k].k,.string xs[k].nm,.int .i64 xs[k].op,uv,ut,.int .i64 xs[k].lo,.int .i64 xs[k].hi,.bool xs[k].opn,us,ur],.agg #[.int .i64 ys[k].k,.string ys[k].nm,.int .i64 ys[k].op,uv',ut',.int .i64 ys[k].lo,.int .i64 ys[k].hi,.bool ys[k].opn,us',ur']] W fun e w'=>e=.returned (.bool (sameF xs[k] ys[k]))∧Below W.heap.size W w'):=fun W hW=>HCC.out k kx ky ⟨uv,ut,us,ur⟩ ⟨uv',ut',us',ur'⟩ W ⟨FV,FT,FS,FR⟩ ⟨FV',FT',FS',FR'⟩ hW
  clear hr TC TC'
  obtain ⟨-,pv,cv,rfl, -⟩:=FV
  obtain ⟨pt,ct,rfl, -⟩:=FT.form
  obtain ⟨ps,cs,rfl, -⟩:=FS.form
  obtain ⟨pr,cr,rfl, -⟩:=FR.form
  obtain ⟨-,pv',cv',rfl, -⟩:=FV'
  obtain ⟨pt',ct',rfl, -⟩:=FT'.form
  obtain ⟨ps',cs',rfl, -⟩:=FS'.form
  obtain ⟨pr',cr',rfl, -⟩:=FR'.form
  clear FT FS FR FT' FS' FR'
  generalize sameF xs[k] ys[k]=C at*
  generalize xs[k].k=xg_k at*
  generalize ys[k].k=yg_k at*
  generalize xs[k].nm=xg_nm at*
  generalize ys[k].nm=yg_nm at*
  generalize xs[k].op=xg_op at*
  generalize ys[k].op=yg_op at*
  generalize xs[k].lo=xg_lo at*
  generalize ys[k].lo=yg_lo at*
  generalize xs[k].hi=xg_hi at*
  generalize ys[k].hi=yg_hi at*
  generalize xs[k].opn=xg_opn at*
  generalize ys[k].opn=yg_opn at*
  generalize xs[k].vars.length=xg_varslength at*
  generalize ys[k].vars.length=yg_varslength at*
  generalize xs[k].terms.length=xg_termslength at*
  generalize ys[k].terms.length=yg_termslength at*
  generalize xs[k].subs.length=xg_subslength at*
  generalize ys[k].subs.length=yg_subslength at*
  generalize xs[k].rgx.length=xg_rgxlength at*
  generalize ys[k].rgx.length=yg_rgxlength at*
  go_upto_region 6 with fail
  have HS:Hid (wr.cell? ⟨b,off+k*10,none⟩=some (.int .i64 xg_k)∧wr.cell? ⟨b,off+k*10+1,none⟩=some (.string xg_nm)∧wr.cell? ⟨b,off+k*10+2,none⟩=some (.int .i64 xg_op)∧wr.cell? ⟨b,off+k*10+3,none⟩=some (.slice pv xg_varslength cv)∧wr.cell? ⟨b,off+k*10+4,none⟩=some (.slice pt xg_termslength ct)∧wr.cell? ⟨b,off+k*10+5,none⟩=some (.int .i64 xg_lo)∧wr.cell? ⟨b,off+k*10+6,none⟩=some (.int .i64 xg_hi)∧wr.cell? ⟨b,off+k*10+7,none⟩=some (.bool xg_opn)∧wr.cell? ⟨b,off+k*10+8,none⟩=some (.slice ps xg_subslength cs)∧wr.cell? ⟨b,off+k*10+9,none⟩=some (.slice pr xg_rgxlength cr)∧wr.cell? ⟨b',off'+k*10,none⟩=some (.int .i64 yg_k)∧wr.cell? ⟨b',off'+k*10+1,none⟩=some (.string yg_nm)∧wr.cell? ⟨b',off'+k*10+2,none⟩=some (.int .i64 yg_op)∧wr.cell? ⟨b',off'+k*10+3,none⟩=some (.slice pv' yg_varslength cv')∧wr.cell? ⟨b',off'+k*10+4,none⟩=some (.slice pt' yg_termslength ct')∧wr.cell? ⟨b',off'+k*10+5,none⟩=some (.int .i64 yg_lo)∧wr.cell? ⟨b',off'+k*10+6,none⟩=some (.int .i64 yg_hi)∧wr.cell? ⟨b',off'+k*10+7,none⟩=some (.bool yg_opn)∧wr.cell? ⟨b',off'+k*10+8,none⟩=some (.slice ps' yg_subslength cs')∧wr.cell? ⟨b',off'+k*10+9,none⟩=some (.slice pr' yg_rgxlength cr')):=⟨a0,a1,a2,a3,a4,a5,a6,a7,a8,a9,b0,b1,b2,b3,b4,b5,b6,b7,b8,b9⟩
  go_region_held3 (fun W=>W.cell? ⟨b,off+k*10,none⟩=some (.int .i64 xg_k)∧W.cell? ⟨b,off+k*10+1,none⟩=some (.string xg_nm)∧W.cell? ⟨b,off+k*10+2,none⟩=some (.int .i64 xg_op)∧W.cell? ⟨b,off+k*10+3,none⟩=some (.slice pv xg_varslength cv)∧W.cell? ⟨b,off+k*10+4,none⟩=some (.slice pt xg_termslength ct)∧W.cell? ⟨b,off+k*10+5,none⟩=some (.int .i64 xg_lo)∧W.cell? ⟨b,off+k*10+6,none⟩=some (.int .i64 xg_hi)∧W.cell? ⟨b,off+k*10+7,none⟩=some (.bool xg_opn)∧W.cell? ⟨b,off+k*10+8,none⟩=some (.slice ps xg_subslength cs)∧W.cell? ⟨b,off+k*10+9,none⟩=some (.slice pr xg_rgxlength cr)∧W.cell? ⟨b',off'+k*10,none⟩=some (.int .i64 yg_k)∧W.cell? ⟨b',off'+k*10+1,none⟩=some (.string yg_nm)∧W.cell? ⟨b',off'+k*10+2,none⟩=some (.int .i64 yg_op)∧W.cell? ⟨b',off'+k*10+3,none⟩=some (.slice pv' yg_varslength cv')∧W.cell? ⟨b',off'+k*10+4,none⟩=some (.slice pt' yg_termslength ct')∧W.cell? ⟨b',off'+k*10+5,none⟩=some (.int .i64 yg_lo)∧W.cell? ⟨b',off'+k*10+6,none⟩=some (.int .i64 yg_hi)∧W.cell? ⟨b',off'+k*10+7,none⟩=some (.bool yg_opn)∧W.cell? ⟨b',off'+k*10+8,none⟩=some (.slice ps' yg_subslength cs')∧W.cell? ⟨b',off'+k*10+9,none⟩=some (.slice pr' yg_rgxlength cr'))
   (exact keepc10 (by go_grown) hbr hbr' HS.out)
   (first
    | (go_at_call 14;refine (cCT.out _ (hB.trans (by go_grown))).mono ?_;rintro e v1 ⟨rfl,hb1⟩;obtain ⟨hX1,hn1⟩:=bgX (n:=wr.heap.size) (W0:=wr) (by go_grown) (by go_size) hb1;clear hb1))
  have hB2:Hid (Below w.heap.size w v1):=hB.trans (hX1.mono hsz)
  clear a0 a1 a2 a3 a4 a5 a6 a7 a8 a9 b0 b1 b2 b3 b4 b5 b6 b7 b8 b9 cCT hX1 hn1
  cases C with
  | true=>
   have hr3:Hid (sameFs xs ys=sameFs (xs.drop (k+1)) (ys.drop (k+1))):=by have:=hr2.out;rwa [Bool.true_and] at this
   go_wp2
   exact ⟨⟨k+1,by omega,by go_num,hr3,hB2.out⟩,by simp [intOf];omega⟩
  | false=>
   have hr3:Hid (sameFs xs ys=false):=by have:=hr2.out;rwa [Bool.false_and] at this
   go_wp2
   go_ret
   exact ⟨ret_bool hr3.out.symm,hB2.out⟩
theorem keepR {W0 W:World} {a a':Addr} {u v:Value} (h:Below W0.heap.size W0 W) (hx:a.block<W0.heap.size) (hy:a'.block<W0.heap.size) (hs:W0.cell? a=some u∧W0.cell? a'=some v):W.cell? a=some u∧W.cell? a'=some v:=⟨bclL h hs.1 hx,bclL h hs.2 hy⟩
theorem rsameRs_step (A B:Value) (xs ys:List Rx) (w:World) (hA:RxsAt w A xs) (hB:RxsAt w B ys) (HF:∀ i (hi:i<xs.length) (hi':i<ys.length) (u u':Value) (W:World),FmsAt w u xs[i].test→FmsAt w u' ys[i].test→Below w.heap.size w W→Calls Tryz.prog 28 #[u,u'] W fun e w'=>e=.returned (.bool (sameFs xs[i].test ys[i].test))∧Below W.heap.size W w') (HR:∀ i (hi:i<xs.length) (hi':i<ys.length) (u u':Value) (W:World),RxsAt w u xs[i].subs→RxsAt w u' ys[i].subs→Below w.heap.size w W→Calls Tryz.prog 27 #[u,u'] W fun e w'=>e=.returned (.bool (sameRs xs[i].subs ys[i].subs))∧Below W.heap.size W w'):
  Calls Tryz.prog 27 #[A,B] w fun e w'=>e=.returned (.bool (sameRs xs ys))∧Below w.heap.size w w':=by
 obtain ⟨p,c,rfl,lx,hc,HX0⟩:=hA.form
 obtain ⟨p',c',rfl,ly,hc',HY0⟩:=hB.form
 by_cases hl:xs.length=ys.length
 case neg=>
  have h2:((xs.length:Int)==ys.length)=false:=by simp;omega
  have HS:Hid (sameRs xs ys=false):=sameRs_len hl
  clear HX0 HY0 hA hB HF HR
  generalize xs.length=n at*
  generalize ys.length=m at*
  go_enter Tryz.func27,Tryz.ntmps27
  go_wp2
  go_ret
  exact ⟨ret_bool HS.out.symm,by go_grown⟩
 have HX:Hid (∀ i (hi:i<xs.length),∃ b off ut us,p=some ⟨b,off,none⟩∧b<w.heap.size∧RxC w b (off+i*3) xs[i] ut us∧FmsAt w ut xs[i].test∧RxsAt w us xs[i].subs):=HX0
 have HY:Hid (∀ i (hi:i<ys.length),∃ b off ut us,p'=some ⟨b,off,none⟩∧b<w.heap.size∧RxC w b (off+i*3) ys[i] ut us∧FmsAt w ut ys[i].test∧RxsAt w us ys[i].subs):=HY0
 have HFF:Hid (∀ i (hi:i<xs.length) (hi':i<ys.length) (u u':Value) (W:World),FmsAt w u xs[i].test→FmsAt w u' ys[i].test→Below w.heap.size w W→Calls Tryz.prog 28 #[u,u'] W fun e w'=>e=.returned (.bool (sameFs xs[i].test ys[i].test))∧Below W.heap.size W w'):=HF
 have HRR:Hid (∀ i (hi:i<xs.length) (hi':i<ys.length) (u u':Value) (W:World),RxsAt w u xs[i].subs→RxsAt w u' ys[i].subs→Below w.heap.size w W→Calls Tryz.prog 27 #[u,u'] W fun e w'=>e=.returned (.bool (sameRs xs[i].subs ys[i].subs))∧Below W.heap.size W w'):=HR
 obtain ⟨n,en⟩:∃ n:Nat,Hid (xs.length=n):=⟨_,rfl⟩
 have em:Hid (ys.length=n):=hl.symm.trans en.out
 rw [en.out] at lx hc ⊢
 rw [em.out] at hc' ⊢
 clear hA hB hl ly HX0 HY0 HF HR
 go_enter Tryz.func27,Tryz.ntmps27
 go_wp2
 go_loopw [5] (fun i wr=>∃ k:Nat,k≤n∧i=.int .i64 k∧Hid (sameRs xs ys=sameRs (xs.drop k) (ys.drop k))∧Below w.heap.size w wr) (fun i _=>n - (intOf i).toNat)
 case atStart=>exact ⟨0,Nat.zero_le _,rfl,(show sameRs xs ys=sameRs (xs.drop 0) (ys.drop 0) by simp),Below.refl _ _⟩
 case round=>
  obtain ⟨k,hk,rfl,hr,hB⟩:=hrel
  have hsz:=hB.size
  by_cases hlt:k<n
  case neg=>
   have c2:¬ (k:Int)<n:=by omega
   have hr3:Hid (sameRs xs ys=true):=by
    have h:=hr.out
    rw [List.drop_eq_nil_of_le (by have:=en.out;omega),List.drop_eq_nil_of_le (by have:=em.out;omega),sameRs_nil] at h
    exact h
   go_wp2
   go_ret
   exact ⟨ret_bool hr3.out.symm,hB⟩
  have hlt':(k:Int)<n:=by omega
  have kx:k<xs.length:=by have:=en.out;omega
  have ky:k<ys.length:=by have:=em.out;omega
  obtain ⟨b,off,ut,us,rfl,hb,TC,TT,TS⟩:=HX.out k kx
  obtain ⟨b',off',ut',us',rfl,hb',TC',TT',TS'⟩:=HY.out k ky
  obtain ⟨a0,a1,a2⟩:=TC.below hB hb
  obtain ⟨b0,b1,b2⟩:=TC'.below hB hb'
  have hbr:b<wr.heap.size:=Nat.lt_of_lt_of_le hb hsz
  have hbr':b'<wr.heap.size:=Nat.lt_of_lt_of_le hb' hsz
  have hr2:Hid (sameRs xs ys=(((xs[k].k==ys[k].k) && (sameFs xs[k].test ys[k].test && sameRs xs[k].subs ys[k].subs)) && sameRs (xs.drop (k+1)) (ys.drop (k+1)))):=by
   have h:=hr.out
   rw [List.drop_eq_getElem_cons kx,List.drop_eq_getElem_cons ky,sameRs_cons,sameR_eq] at h
   exact h
  have cF:Hid (∀ W:World,Below w.heap.size w W→Calls Tryz.prog 28 #[ut,ut'] W fun e w'=>e=.returned (.bool (sameFs xs[k].test ys[k].test))∧Below W.heap.size W w'):=fun W hW=>HFF.out k kx ky ut ut' W TT TT' hW
  have cR:Hid (∀ W:World,Below w.heap.size w W→Calls Tryz.prog 27 #[us,us'] W fun e w'=>e=.returned (.bool (sameRs xs[k].subs ys[k].subs))∧Below W.heap.size W w'):=fun W hW=>HRR.out k kx ky us us' W TS TS' hW
  clear hr TC TC'
  obtain ⟨pt,ct,rfl, -⟩:=TT.form
  obtain ⟨ps,cs,rfl, -⟩:=TS.form
  obtain ⟨pt',ct',rfl, -⟩:=TT'.form
  obtain ⟨ps',cs',rfl, -⟩:=TS'.form
  clear TT TS TT' TS'
  generalize sameFs xs[k].test ys[k].test=C at*
  generalize sameRs xs[k].subs ys[k].subs=D at*
  generalize xs[k].k=xk at*
  generalize ys[k].k=yk at*
  generalize xs[k].test.length=nt at*
  generalize ys[k].test.length=nt' at*
  generalize xs[k].subs.length=ns at*
  generalize ys[k].subs.length=ns' at*
  go_upto_region 6 with fail
  have HS:Hid (wr.cell? ⟨b,off+k*3+1,none⟩=some (.slice pt nt ct)∧wr.cell? ⟨b',off'+k*3+1,none⟩=some (.slice pt' nt' ct')):=⟨a1,b1⟩
  go_region_held3 (fun W=>W.cell? ⟨b,off+k*3+1,none⟩=some (.slice pt nt ct)∧W.cell? ⟨b',off'+k*3+1,none⟩=some (.slice pt' nt' ct'))
   (exact keepR (by go_grown) hbr hbr' HS.out)
   (first
    | (go_at_call 28;refine (cF.out _ (hB.trans (by go_grown))).mono ?_;rintro e v1 ⟨rfl,hv1⟩;obtain ⟨hX1,hn1⟩:=bgX (n:=wr.heap.size) (W0:=wr) (by go_grown) (by go_size) hv1;clear hv1))
  have hB1:Below w.heap.size w v1:=hB.trans (hX1.mono hsz)
  have hsz1:=hB1.size
  have a0':v1.cell? ⟨b,off+k*3,none⟩=some (.int .i64 xk):=bclL hX1 a0 hbr
  have b0':v1.cell? ⟨b',off'+k*3,none⟩=some (.int .i64 yk):=bclL hX1 b0 hbr'
  have a2':v1.cell? ⟨b,off+k*3+2,none⟩=some (.slice ps ns cs):=bclL hX1 a2 hbr
  have b2':v1.cell? ⟨b',off'+k*3+2,none⟩=some (.slice ps' ns' cs'):=bclL hX1 b2 hbr'
  have hb1:b<v1.heap.size:=by omega
  have hb1':b'<v1.heap.size:=by omega
  clear a0 a1 a2 b0 b1 b2 HS hX1 cF hB
  go_upto_region 7 with fail
  have HS:Hid (v1.cell? ⟨b,off+k*3+2,none⟩=some (.slice ps ns cs)∧v1.cell? ⟨b',off'+k*3+2,none⟩=some (.slice ps' ns' cs')):=⟨a2',b2'⟩
  go_region_held3 (fun W=>W.cell? ⟨b,off+k*3+2,none⟩=some (.slice ps ns cs)∧W.cell? ⟨b',off'+k*3+2,none⟩=some (.slice ps' ns' cs'))
   (exact keepR (by go_grown) hb1 hb1' HS.out)
   (first
    | (go_at_call 27;refine (cR.out _ (hB1.trans (by go_grown))).mono ?_;rintro e v2 ⟨rfl,hv2⟩;obtain ⟨hX2,hn2⟩:=bgX (n:=v1.heap.size) (W0:=v1) (by go_grown) (by go_size) hv2;clear hv2))
  have hB2:Below w.heap.size w v2:=hB1.trans (hX2.mono hsz1)
  have a0:v2.cell? ⟨b,off+k*3,none⟩=some (.int .i64 xk):=bclL hX2 a0' hb1
  have b0:v2.cell? ⟨b',off'+k*3,none⟩=some (.int .i64 yk):=bclL hX2 b0' hb1'
  clear a0' b0' a2' b2' HS hX2 cR hB1
  go_upto_region 8 with fail
  by_cases hk1:(xk==yk)=true
  case neg=>
   have hk1':(xk==yk)=false:=by simpa using hk1
   have hne:(xk != yk)=true:=by simp [bne,hk1']
   have hr3:Hid (sameRs xs ys=false):=by have h:=hr2.out;rw [hk1'] at h;simp at h;exact h
   clear hk1 hr2
   go_quiet (fail)
   go_wp2
   go_ret
   exact ⟨ret_bool hr3.out.symm,bdrewA _ hB2⟩
  have hne:(xk != yk)=false:=by simp [bne,hk1]
  cases C with
  | false=>
   have hr3:Hid (sameRs xs ys=false):=by have h:=hr2.out;simp at h;exact h
   clear hr2
   go_quiet (fail)
   go_wp2
   go_ret
   exact ⟨ret_bool hr3.out.symm,bdrewA _ hB2⟩
  | true=>
   cases D with
   | false=>
    have hr3:Hid (sameRs xs ys=false):=by have h:=hr2.out;simp at h;exact h
    clear hr2
    go_quiet (fail)
    go_wp2
    go_ret
    exact ⟨ret_bool hr3.out.symm,bdrewA _ hB2⟩
   | true=>
    have hr3:Hid (sameRs xs ys=sameRs (xs.drop (k+1)) (ys.drop (k+1))):=by have h:=hr2.out;rw [hk1] at h;simp only [Bool.true_and] at h;exact h
    clear hr2
    go_quiet (fail)
    go_wp2
    exact ⟨⟨k+1,by omega,by go_num,hr3,bdrewA _ hB2⟩,by simp [intOf];omega⟩
theorem rsamef_step (x y:Fm) (q q':FQ) (w:World) (hq:QAt w (x,q)) (hq':QAt w (y,q')) (IF:∀ W:World,Below w.heap.size w W→Calls Tryz.prog 28 #[q.s,q'.s] W fun e w'=>e=.returned (.bool (sameFs x.subs y.subs))∧Below W.heap.size W w') (IR:∀ W:World,Below w.heap.size w W→Calls Tryz.prog 27 #[q.r,q'.r] W fun e w'=>e=.returned (.bool (sameRs x.rgx y.rgx))∧Below W.heap.size W w'):
  Calls Tryz.prog 14 #[.agg #[.int .i64 x.k,.string x.nm,.int .i64 x.op,q.v,q.t,.int .i64 x.lo,.int .i64 x.hi,.bool x.opn,q.s,q.r],.agg #[.int .i64 y.k,.string y.nm,.int .i64 y.op,q'.v,q'.t,.int .i64 y.lo,.int .i64 y.hi,.bool y.opn,q'.s,q'.r]] w fun e w'=>e=.returned (.bool (sameF x y))∧Below w.heap.size w w':=by
 have cV:Hid (∀ W:World,Below w.heap.size w W→Calls Tryz.prog 25 #[q.v,q'.v] W fun e w'=>e=.returned (.bool (decide (x.vars=y.vars)))∧Below W.heap.size W w'):=fun W hW=>rnms_any _ _ _ _ W (hq.1.below hW) (hq'.1.below hW)
 have cT:Hid (∀ W:World,Below w.heap.size w W→Calls Tryz.prog 26 #[q.t,q'.t] W fun e w'=>e=.returned (.bool (sameTs x.terms y.terms))∧Below W.heap.size W w'):=fun W hW=>rsame_tms _ _ _ _ _ W (Nat.le_refl _) (hq.2.1.bel hW) (hq'.2.1.bel hW)
 have cR:Hid (∀ W:World,Below w.heap.size w W→Calls Tryz.prog 27 #[q.r,q'.r] W fun e w'=>e=.returned (.bool (sameRs x.rgx y.rgx))∧Below W.heap.size W w'):=IR
 have cF:Hid (∀ W:World,Below w.heap.size w W→Calls Tryz.prog 28 #[q.s,q'.s] W fun e w'=>e=.returned (.bool (sameFs x.subs y.subs))∧Below W.heap.size W w'):=IF
 have hE:Hid (sameF x y=((x.k==y.k) && ((x.nm.toList==y.nm.toList) && ((x.op==y.op) && (((x.lo==y.lo) && ((x.hi==y.hi) && (x.opn==y.opn))) && (decide (x.vars=y.vars) && (sameTs x.terms y.terms && (sameRs x.rgx y.rgx && sameFs x.subs y.subs)))))))):=sameF_eq x y
 obtain ⟨uv,ut,us,ur⟩:=q
 obtain ⟨uv',ut',us',ur'⟩:=q'
 obtain ⟨h1,h2,h3,h4⟩:=hq
 obtain ⟨h1',h2',h3',h4'⟩:=hq'
 dsimp only at h1 h2 h3 h4 h1' h2' h3' h4' cV cT cR cF ⊢
 obtain ⟨-,pv,cv,rfl, -⟩:=h1
 obtain ⟨pt,ct,rfl, -⟩:=h2.form
 obtain ⟨ps,cs,rfl, -⟩:=h3.form
 obtain ⟨pr,cr,rfl, -⟩:=h4.form
 obtain ⟨-,pv',cv',rfl, -⟩:=h1'
 obtain ⟨pt',ct',rfl, -⟩:=h2'.form
 obtain ⟨ps',cs',rfl, -⟩:=h3'.form
 obtain ⟨pr',cr',rfl, -⟩:=h4'.form
 clear h2 h3 h4 h2' h3' h4' IF IR
 generalize sameF x y=R at*
 generalize sameFs x.subs y.subs=C4 at*
 generalize sameRs x.rgx y.rgx=C3 at*
 generalize sameTs x.terms y.terms=C2 at*
 generalize decide (x.vars=y.vars)=C1 at*
 generalize x.vars.length=nv at*
 generalize y.vars.length=nv' at*
 generalize x.terms.length=nt at*
 generalize y.terms.length=nt' at*
 generalize x.subs.length=ns at*
 generalize y.subs.length=ns' at*
 generalize x.rgx.length=nr at*
 generalize y.rgx.length=nr' at*
 generalize x.lo=lo at*
 generalize y.lo=lo' at*
 generalize x.hi=hi at*
 generalize y.hi=hi' at*
 generalize x.nm=nm at*
 generalize y.nm=nm' at*
 generalize x.opn=o at*
 generalize y.opn=o' at*
 generalize x.op=op at*
 generalize y.op=op' at*
 generalize x.k=k at*
 generalize y.k=k' at*
 by_cases h1:(k==k')=true
 case neg=>
  have hf:(k==k')=false:=by simpa using h1
  have hR:Hid (R=false):=by have h:=hE.out;rw [hf] at h;simp at h;exact h
  have hne:(k != k')=true:=by simp [bne,hf]
  clear h1
  go_enter Tryz.func14,Tryz.ntmps14
  go_wp2
  all_goals (go_ret;exact ⟨ret_bool hR.out.symm,by go_grown⟩)
 have n1:(k != k')=false:=by simp [bne,h1]
 by_cases h2:(nm.toList==nm'.toList)=true
 case neg=>
  have hf:(nm.toList==nm'.toList)=false:=by simpa using h2
  have hR:Hid (R=false):=by have h:=hE.out;rw [hf] at h;simp at h;exact h
  have hne:(!nm.toList==nm'.toList)=true:=by simp [hf]
  clear h2
  go_enter Tryz.func14,Tryz.ntmps14
  go_wp2
  all_goals (go_ret;exact ⟨ret_bool hR.out.symm,by go_grown⟩)
 have n2:(!nm.toList==nm'.toList)=false:=by simp [h2]
 by_cases h3:(op==op')=true
 case neg=>
  have hf:(op==op')=false:=by simpa using h3
  have hR:Hid (R=false):=by have h:=hE.out;rw [hf] at h;simp at h;exact h
  have hne:(op != op')=true:=by simp [bne,hf]
  clear h3
  go_enter Tryz.func14,Tryz.ntmps14
  go_wp2
  all_goals (go_ret;exact ⟨ret_bool hR.out.symm,by go_grown⟩)
 have n3:(op != op')=false:=by simp [bne,h3]
 by_cases h4l:lo=lo'
 case neg=>
  have hf:(lo==lo')=false:=by simpa using h4l
  have hR:Hid (R=false):=by have h:=hE.out;rw [hf] at h;simp at h;exact h
  go_enter Tryz.func14,Tryz.ntmps14
  go_wp2
  all_goals (go_ret;exact ⟨ret_bool hR.out.symm,by go_grown⟩)
 subst h4l
 by_cases h4h:hi=hi'
 case neg=>
  have hf:(hi==hi')=false:=by simpa using h4h
  have hR:Hid (R=false):=by have h:=hE.out;rw [hf] at h;simp at h;exact h
  go_enter Tryz.func14,Tryz.ntmps14
  go_wp2
  all_goals (go_ret;exact ⟨ret_bool hR.out.symm,by go_grown⟩)
 subst h4h
 by_cases h4o:o=o'
 case neg=>
  have hf:(o==o')=false:=by simpa using h4o
  have hR:Hid (R=false):=by have h:=hE.out;rw [hf] at h;simp at h;exact h
  go_enter Tryz.func14,Tryz.ntmps14
  go_wp2
  all_goals (go_ret;exact ⟨ret_bool hR.out.symm,by go_grown⟩)
 subst h4o
 have hR0:Hid (R=(C1 && (C2 && (C3 && C4)))):=by have h:=hE.out;rw [h1,h2,h3] at h;simp only [beq_self_eq_true,Bool.true_and] at h;exact h
 clear hE
 go_enter Tryz.func14,Tryz.ntmps14
 go_wp2_with fail
 refine (cV.out _ (by go_grown)).mono ?_
 rintro e w1 ⟨rfl,hw1⟩
 obtain ⟨hB1,hn1⟩:=bgX (n:=w.heap.size) (W0:=w) (by go_grown) (by go_size) hw1
 have hz1:w.heap.size+1<w1.heap.size:=by have:=hw1.size;simp at this;omega
 have e4:w1.cell? ⟨w.heap.size,4,none⟩=some (.slice pt nt ct):=(hw1.cell (p:=⟨w.heap.size,4,none⟩) (by first | (simp;done) | (simp;omega))).trans (by simp [go_sem])
 have g4:w1.cell? ⟨w.heap.size+1,4,none⟩=some (.slice pt' nt' ct'):=(hw1.cell (p:=⟨w.heap.size+1,4,none⟩) (by first | (simp;done) | (simp;omega))).trans (by simp [go_sem])
 have e9:w1.cell? ⟨w.heap.size,9,none⟩=some (.slice pr nr cr):=(hw1.cell (p:=⟨w.heap.size,9,none⟩) (by first | (simp;done) | (simp;omega))).trans (by simp [go_sem])
 have g9:w1.cell? ⟨w.heap.size+1,9,none⟩=some (.slice pr' nr' cr'):=(hw1.cell (p:=⟨w.heap.size+1,9,none⟩) (by first | (simp;done) | (simp;omega))).trans (by simp [go_sem])
 have e8:w1.cell? ⟨w.heap.size,8,none⟩=some (.slice ps ns cs):=(hw1.cell (p:=⟨w.heap.size,8,none⟩) (by first | (simp;done) | (simp;omega))).trans (by simp [go_sem])
 have g8:w1.cell? ⟨w.heap.size+1,8,none⟩=some (.slice ps' ns' cs'):=(hw1.cell (p:=⟨w.heap.size+1,8,none⟩) (by first | (simp;done) | (simp;omega))).trans (by simp [go_sem])
 clear hw1 cV
 go_wp2_with fail
 refine (cT.out _ hB1).mono ?_
 rintro e w2 ⟨rfl,hw2⟩
 have hB2:Below w.heap.size w w2:=hB1.trans (hw2.mono hn1)
 have hn2:w.heap.size≤w2.heap.size:=hB2.size
 have hz2:w.heap.size+1<w2.heap.size:=Nat.lt_of_lt_of_le hz1 hw2.size
 have e9:w2.cell? ⟨w.heap.size,9,none⟩=some (.slice pr nr cr):=(hw2.cell (p:=⟨w.heap.size,9,none⟩) (by show w.heap.size<_;omega)).trans (e9)
 have g9:w2.cell? ⟨w.heap.size+1,9,none⟩=some (.slice pr' nr' cr'):=(hw2.cell (p:=⟨w.heap.size+1,9,none⟩) (by show w.heap.size+1<_;omega)).trans (g9)
 have e8:w2.cell? ⟨w.heap.size,8,none⟩=some (.slice ps ns cs):=(hw2.cell (p:=⟨w.heap.size,8,none⟩) (by show w.heap.size<_;omega)).trans (e8)
 have g8:w2.cell? ⟨w.heap.size+1,8,none⟩=some (.slice ps' ns' cs'):=(hw2.cell (p:=⟨w.heap.size+1,8,none⟩) (by show w.heap.size+1<_;omega)).trans (g8)
 clear hw2 cT
 go_wp2_with fail
 refine (cR.out _ hB2).mono ?_
 rintro e w3 ⟨rfl,hw3⟩
 have hB3:Below w.heap.size w w3:=hB2.trans (hw3.mono hn2)
 have hn3:w.heap.size≤w3.heap.size:=hB3.size
 have hz3:w.heap.size+1<w3.heap.size:=Nat.lt_of_lt_of_le hz2 hw3.size
 have e8:w3.cell? ⟨w.heap.size,8,none⟩=some (.slice ps ns cs):=(hw3.cell (p:=⟨w.heap.size,8,none⟩) (by show w.heap.size<_;omega)).trans (e8)
 have g8:w3.cell? ⟨w.heap.size+1,8,none⟩=some (.slice ps' ns' cs'):=(hw3.cell (p:=⟨w.heap.size+1,8,none⟩) (by show w.heap.size+1<_;omega)).trans (g8)
 clear hw3 cR e4 g4 e9 g9
 cases C1 with
 | false=>
  have hR:Hid (R=false):=by have h:=hR0.out;simp at h;exact h
  go_wp2
  go_ret
  exact ⟨ret_bool hR.out.symm,hB3⟩
 | true=>
 cases C2 with
 | false=>
  have hR:Hid (R=false):=by have h:=hR0.out;simp at h;exact h
  go_wp2
  go_ret
  exact ⟨ret_bool hR.out.symm,hB3⟩
 | true=>
 cases C3 with
 | false=>
  have hR:Hid (R=false):=by have h:=hR0.out;simp at h;exact h
  go_wp2
  go_ret
  exact ⟨ret_bool hR.out.symm,hB3⟩
 | true=>
  have hR:Hid (R=C4):=by have h:=hR0.out;simp at h;exact h
  go_wp2_with fail
  refine (cF.out _ hB3).mono ?_
  rintro e w4 ⟨rfl,hw4⟩
  have hB4:Below w.heap.size w w4:=hB3.trans (hw4.mono hn3)
  clear hw4 cF e8 g8
  cases C4 with
  | false=>
   go_wp2
   go_ret
   exact ⟨ret_bool hR.out.symm,hB4⟩
  | true=>
   go_wp2
   go_ret
   exact ⟨ret_bool hR.out.symm,hB4⟩
theorem both_rsame:∀ m:Nat,(∀ (xs ys:List Fm) (A B:Value) (w:World),SizeOf.sizeOf xs≤m→FmsAt w A xs→FmsAt w B ys→Calls Tryz.prog 28 #[A,B] w fun e w'=>e=.returned (.bool (sameFs xs ys))∧Below w.heap.size w w')∧(∀ (xs ys:List Rx) (A B:Value) (w:World),SizeOf.sizeOf xs≤m→RxsAt w A xs→RxsAt w B ys→Calls Tryz.prog 27 #[A,B] w fun e w'=>e=.returned (.bool (sameRs xs ys))∧Below w.heap.size w w'):=by
 intro m
 induction m with
 | zero=>exact ⟨fun xs ys A B w hm=>by cases xs<;>simp at hm,fun xs ys A B w hm=>by cases xs<;>simp at hm⟩
 | succ m ih=>
  refine ⟨fun xs ys A B w hm hA hB=>rsameFs_step A B xs ys w hA hB fun i hi hi' q q' W h1 h2 hW=> ?_,fun xs ys A B w hm hA hB=>rsameRs_step A B xs ys w hA hB (fun i hi hi' u u' W h1 h2 hW=> ?_) (fun i hi hi' u u' W h1 h2 hW=> ?_)⟩
  ·have s:=mem_lt i hi
   have k1:=h1.below hW
   have k2:=h2.below hW
   exact rsamef_step xs[i] ys[i] q q' W k1 k2 (fun W' hW'=>ih.1 _ _ _ _ W' (by have:=Fm.subs_lt xs[i];omega) (k1.2.2.1.bel hW') (k2.2.2.1.bel hW')) (fun W' hW'=>ih.2 _ _ _ _ W' (by have:=Fm.rgx_lt xs[i];omega) (k1.2.2.2.bel hW') (k2.2.2.2.bel hW'))
  ·have s:=mem_lt i hi
   exact ih.1 _ _ _ _ W (by have:=Rx.test_lt xs[i];omega) (h1.bel hW) (h2.bel hW)
  ·have s:=mem_lt i hi
   exact ih.2 _ _ _ _ W (by have:=Rx.subs_lt xs[i];omega) (h1.bel hW) (h2.bel hW)
theorem rsame_fm (x y:Fm) (q q':FQ) (w:World) (hq:QAt w (x,q)) (hq':QAt w (y,q')):
  Calls Tryz.prog 14 #[.agg #[.int .i64 x.k,.string x.nm,.int .i64 x.op,q.v,q.t,.int .i64 x.lo,.int .i64 x.hi,.bool x.opn,q.s,q.r],.agg #[.int .i64 y.k,.string y.nm,.int .i64 y.op,q'.v,q'.t,.int .i64 y.lo,.int .i64 y.hi,.bool y.opn,q'.s,q'.r]] w fun e w'=>e=.returned (.bool (sameF x y))∧Below w.heap.size w w':=
 rsamef_step x y q q' w hq hq' (fun W hW=>(both_rsame _).1 _ _ _ _ W (Nat.le_refl _) (hq.2.2.1.bel hW) (hq'.2.2.1.bel hW)) (fun W hW=>(both_rsame _).2 _ _ _ _ W (Nat.le_refl _) (hq.2.2.2.bel hW) (hq'.2.2.2.bel hW))
theorem qat_ft {w:World} {f:Fm} {q:FQ} (h:QAt w (f,q)):ftF f:=by
 rw [ftF_eq]
 exact ⟨tms_ft h.2.1,rxs_ft h.2.2.2,fms_ft h.2.2.1⟩
end Go.Proofs.YticnfeolbfmgfaaGreatDoor
