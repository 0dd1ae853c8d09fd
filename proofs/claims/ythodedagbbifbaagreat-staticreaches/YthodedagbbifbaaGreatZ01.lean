/- What the claims of this seat share: base. -/
import Derived.Test.YthodedagbbifbaaGreatRows
import Derived.WalkKit
import Derived.WalkSpells
import Derived.WalkLawsBesides
import Derived.Handy
import Derived.BigQuiet
import Derived.Deep.QuietTactic
import Derived.WalkMore
import Derived.ScopeJumps
import Derived.Deep.RegionHeld3
import Derived.Shelf.Small.Bits
import Derived.Shelf.Strconv.Itoa0
import Derived.Shelf.LaysM
import Derived.Shelf.Strconv.Clone
import Derived.Shelf.Sort.Plain
import Derived.Shelf.Slices.Turned
import Derived.Shelf.Slices.Equal
import Derived.Ground.Names2Prog
import Derived.Shelf.Slices.Clone
import Derived.Shelf.Slices.CompactS
import Derived.Shelf.Slices.Cells
import Derived.Shelf.Slices.In.SortNone
import Derived.Shelf.Slices.Empties2
import Derived.LoopN
import Derived.ChangeKeysEq
import Derived.Deep.Cut
set_option maxRecDepth 100000
set_option maxHeartbeats 8000000
namespace Go.Proofs.YthodedagbbifbaaGreat
namespace LX
def digN (n:Nat):Bool:=decide (48≤n) && decide (n≤57)
def lowN (n:Nat):Bool:=decide (97≤n) && decide (n≤122)
def inwN (n:Nat):Bool:=lowN n || digN n || n==95
def hd:List UInt8→Nat
 | []=>0
 | c::_=>c.toNat
def run (p:Nat→Bool):List UInt8→Nat
 | []=>0
 | c::t=>if p c.toNat then run p t+1 else 0
def numLen (l:List UInt8):Nat:=
 if hd (l.drop (run digN l))=47∧digN (hd (l.drop (run digN l+1)))=true then run digN l+1+run digN (l.drop (run digN l+1)) else run digN l
def brk:List UInt8→Option Nat
 | []=>none
 | c::t=>if c.toNat=93 then some 1 else (brk t).map (·+1)
def qend:Bool→List UInt8→Option Nat
 | _,[]=>none
 | true,_::t=>(qend false t).map (·+1)
 | false,c::t=>if c.toNat=34 then some 1 else (qend (c.toNat==92) t).map (·+1)
def beh:List UInt8→Nat×Nat
 | []=>(0,0)
 | c::t=>
  if c.toNat=40 then (1,1) else if c.toNat=41 then (2,1) else if lowN c.toNat then (3,1+run inwN t)
  else if digN c.toNat || (c.toNat==45 && digN (hd t)) then (6,1+numLen t)
  else if c.toNat=60∧hd t=61 then (4,2)
  else if c.toNat=61∨c.toNat=43∨c.toNat=42∨c.toNat=60∨c.toNat=45 then (4,1)
  else if c.toNat=91 then ((brk t).elim (0,0) fun k=>(5,1+k))
  else if c.toNat=34 then ((qend false t).elim (0,0) fun k=>(6,1+k))
  else if c.toNat=64 then (7,1+run digN t)
  else (0,0)
section
variable {V:Type} (sd:Nat→List UInt8→V×Bool)
def fine (l:List UInt8):Prop:=(beh l).1≠0∧(sd (beh l).1 (l.take (beh l).2)).2=true
instance (l:List UInt8):Decidable (fine sd l):=inferInstanceAs (Decidable (_∧_))
end
end LX
end Go.Proofs.YthodedagbbifbaaGreat
namespace Go.Proofs.YthodedagbbifbaaGreat
open LX
set_option linter.unusedVariables false
def resv:List (List UInt8):=[[116,114,117,101],[102,97,108,115,101],[110,111,116],[97,110,100],[111,114],[101,120,105,115,116,115],[112,114,101,118],[110,101,120,116],[111,110,99,101],[115,111,111,110],[115,105,110,99,101],[117,110,116,105,108],[98,101,102,111,114,101],[97,102,116,101,114],[97,103,103],[108,101,116],[108,101,116,112,97,115,116],[106,111,105,110],[97,110,121],[116,101,115,116],[97,108,116],[115,101,113],[115,116,97,114]]
def inAll:List UInt8→Bool
 | []=>true
 | c::l=>inwN c.toNat && inAll l
def nameL (l:List UInt8):Bool:=decide (1≤l.length) && decide (l.length≤16) && lowN (hd l) && !resv.contains l && inAll l
def nameB (s:ByteArray):Bool:=nameL s.data.toList
end Go.Proofs.YthodedagbbifbaaGreat
namespace Go.Proofs.YthodedagbbifbaaGreat
open Go.RowKit LX
theorem retb {a b:Bool} (h:a=b):Ending.returned (.bool a)=.returned (.bool b):=by rw [h]
theorem hd_drop (s:ByteArray) (i:Nat) (h:i<s.size):hd (s.data.toList.drop i)=s[i].toNat:=by
 have h':i<s.data.toList.length:=by simpa using h
 rw [List.drop_eq_getElem_cons h']
 rfl
end Go.Proofs.YthodedagbbifbaaGreat
namespace Go.Proofs.YthodedagbbifbaaGreat
open Go.RowKit LX
set_option linter.unusedVariables false
theorem aletter_any (c:Nat) (w:World) (hc:c<256):
  Calls Tryz.prog 173 #[.int .u8 c] w fun e w'=>e=.returned (.bool (lowN c))∧w'=w:=by
 go_enter Tryz.func173,Tryz.ntmps173
 go_wp2
 all_goals go_ret
 all_goals refine ⟨retb ?_,rfl⟩
 all_goals unfold lowN
 all_goals rw [Bool.eq_iff_iff]
 all_goals simp
 all_goals omega
theorem ne_list {s:ByteArray} {l:List UInt8} (h:¬ s.data.toList=l):(s.toList==l)=false:=by rw [ByteArray.toList_eq];simpa using h
theorem of_list {s:ByteArray} {l:List UInt8} (h:s.data.toList=l):s=⟨l.toArray⟩:=by
 cases s
 subst h
 simp
theorem reserved_any (s:ByteArray) (w:World):
  Calls Tryz.prog 174 #[.string s] w fun e w'=>e=.returned (.bool (resv.contains s.data.toList))∧w'=w:=by
 by_cases h0:s.data.toList=[116,114,117,101]
 ·have hs:=of_list h0
  subst hs
  go_enter Tryz.func174,Tryz.ntmps174
  go_wp2
  go_ret
  exact ⟨rfl,rfl⟩
 by_cases h1:s.data.toList=[102,97,108,115,101]
 ·have hs:=of_list h1
  subst hs
  go_enter Tryz.func174,Tryz.ntmps174
  go_wp2
  go_ret
  exact ⟨rfl,rfl⟩
 by_cases h2:s.data.toList=[110,111,116]
 ·have hs:=of_list h2
  subst hs
  go_enter Tryz.func174,Tryz.ntmps174
  go_wp2
  go_ret
  exact ⟨rfl,rfl⟩
 by_cases h3:s.data.toList=[97,110,100]
 ·have hs:=of_list h3
  subst hs
  go_enter Tryz.func174,Tryz.ntmps174
  go_wp2
  go_ret
  exact ⟨rfl,rfl⟩
 by_cases h4:s.data.toList=[111,114]
 ·have hs:=of_list h4
  subst hs
  go_enter Tryz.func174,Tryz.ntmps174
  go_wp2
  go_ret
  exact ⟨rfl,rfl⟩
 by_cases h5:s.data.toList=[101,120,105,115,116,115]
 ·have hs:=of_list h5
  subst hs
  go_enter Tryz.func174,Tryz.ntmps174
  go_wp2
  go_ret
  exact ⟨rfl,rfl⟩
 by_cases h6:s.data.toList=[112,114,101,118]
 ·have hs:=of_list h6
  subst hs
  go_enter Tryz.func174,Tryz.ntmps174
  go_wp2
  go_ret
  exact ⟨rfl,rfl⟩
 by_cases h7:s.data.toList=[110,101,120,116]
 ·have hs:=of_list h7
  subst hs
  go_enter Tryz.func174,Tryz.ntmps174
  go_wp2
  go_ret
  exact ⟨rfl,rfl⟩
 by_cases h8:s.data.toList=[111,110,99,101]
 ·have hs:=of_list h8
  subst hs
  go_enter Tryz.func174,Tryz.ntmps174
  go_wp2
  go_ret
  exact ⟨rfl,rfl⟩
 by_cases h9:s.data.toList=[115,111,111,110]
 ·have hs:=of_list h9
  subst hs
  go_enter Tryz.func174,Tryz.ntmps174
  go_wp2
  go_ret
  exact ⟨rfl,rfl⟩
 by_cases h10:s.data.toList=[115,105,110,99,101]
 ·have hs:=of_list h10
  subst hs
  go_enter Tryz.func174,Tryz.ntmps174
  go_wp2
  go_ret
  exact ⟨rfl,rfl⟩
 by_cases h11:s.data.toList=[117,110,116,105,108]
 ·have hs:=of_list h11
  subst hs
  go_enter Tryz.func174,Tryz.ntmps174
  go_wp2
  go_ret
  exact ⟨rfl,rfl⟩
 by_cases h12:s.data.toList=[98,101,102,111,114,101]
 ·have hs:=of_list h12
  subst hs
  go_enter Tryz.func174,Tryz.ntmps174
  go_wp2
  go_ret
  exact ⟨rfl,rfl⟩
 by_cases h13:s.data.toList=[97,102,116,101,114]
 ·have hs:=of_list h13
  subst hs
  go_enter Tryz.func174,Tryz.ntmps174
  go_wp2
  go_ret
  exact ⟨rfl,rfl⟩
 by_cases h14:s.data.toList=[97,103,103]
 ·have hs:=of_list h14
  subst hs
  go_enter Tryz.func174,Tryz.ntmps174
  go_wp2
  go_ret
  exact ⟨rfl,rfl⟩
 by_cases h15:s.data.toList=[108,101,116]
 ·have hs:=of_list h15
  subst hs
  go_enter Tryz.func174,Tryz.ntmps174
  go_wp2
  go_ret
  exact ⟨rfl,rfl⟩
 by_cases h16:s.data.toList=[108,101,116,112,97,115,116]
 ·have hs:=of_list h16
  subst hs
  go_enter Tryz.func174,Tryz.ntmps174
  go_wp2
  go_ret
  exact ⟨rfl,rfl⟩
 by_cases h17:s.data.toList=[106,111,105,110]
 ·have hs:=of_list h17
  subst hs
  go_enter Tryz.func174,Tryz.ntmps174
  go_wp2
  go_ret
  exact ⟨rfl,rfl⟩
 by_cases h18:s.data.toList=[97,110,121]
 ·have hs:=of_list h18
  subst hs
  go_enter Tryz.func174,Tryz.ntmps174
  go_wp2
  go_ret
  exact ⟨rfl,rfl⟩
 by_cases h19:s.data.toList=[116,101,115,116]
 ·have hs:=of_list h19
  subst hs
  go_enter Tryz.func174,Tryz.ntmps174
  go_wp2
  go_ret
  exact ⟨rfl,rfl⟩
 by_cases h20:s.data.toList=[97,108,116]
 ·have hs:=of_list h20
  subst hs
  go_enter Tryz.func174,Tryz.ntmps174
  go_wp2
  go_ret
  exact ⟨rfl,rfl⟩
 by_cases h21:s.data.toList=[115,101,113]
 ·have hs:=of_list h21
  subst hs
  go_enter Tryz.func174,Tryz.ntmps174
  go_wp2
  go_ret
  exact ⟨rfl,rfl⟩
 by_cases h22:s.data.toList=[115,116,97,114]
 ·have hs:=of_list h22
  subst hs
  go_enter Tryz.func174,Tryz.ntmps174
  go_wp2
  go_ret
  exact ⟨rfl,rfl⟩
 have g0:=ne_list h0
 have g1:=ne_list h1
 have g2:=ne_list h2
 have g3:=ne_list h3
 have g4:=ne_list h4
 have g5:=ne_list h5
 have g6:=ne_list h6
 have g7:=ne_list h7
 have g8:=ne_list h8
 have g9:=ne_list h9
 have g10:=ne_list h10
 have g11:=ne_list h11
 have g12:=ne_list h12
 have g13:=ne_list h13
 have g14:=ne_list h14
 have g15:=ne_list h15
 have g16:=ne_list h16
 have g17:=ne_list h17
 have g18:=ne_list h18
 have g19:=ne_list h19
 have g20:=ne_list h20
 have g21:=ne_list h21
 have g22:=ne_list h22
 have hn:Hid (resv.contains s.data.toList=false):=by
  unfold Hid resv
  simp [h0,h1,h2,h3,h4,h5,h6,h7,h8,h9,h10,h11,h12,h13,h14,h15,h16,h17,h18,h19,h20,h21,h22]
 rw [hn.out]
 clear h0 h1 h2 h3 h4 h5 h6 h7 h8 h9 h10 h11 h12 h13 h14 h15 h16 h17 h18 h19 h20 h21 h22
 go_enter Tryz.func174,Tryz.ntmps174
 go_wp2
 go_ret
 exact ⟨rfl,rfl⟩
theorem nameL_len {l:List UInt8} (h:nameL l=true):l.length≤16:=by
 unfold nameL at h
 simp at h
 exact h.1.1.1.2
theorem nameL_all {l:List UInt8} (h1:1≤l.length) (h2:l.length≤16) (h3:lowN (hd l)=true) (h4:resv.contains l=false):nameL l=inAll l:=by
 unfold nameL
 rw [h3,h4,decide_eq_true h1,decide_eq_true h2]
 rfl
theorem name_any (s:ByteArray) (w:World):
  Calls Tryz.prog 162 #[.string s] w fun e w'=>e=.returned (.bool (nameB s))∧w'=w:=by
 have hl:s.data.toList.length=s.size:=by simp
 by_cases h0:s.size=0
 ·have hs:s=⟨#[]⟩:=of_list (l:=[]) (List.eq_nil_of_length_eq_zero (by omega))
  subst hs
  go_enter Tryz.func162,Tryz.ntmps162
  go_wp2
  go_ret
  exact ⟨rfl,rfl⟩
 ·have e0:(s.toList==[])=false:=by
   rw [ByteArray.toList_eq]
   simp
   intro h
   apply h0
   rw [← hl,h]
   rfl
  by_cases h1:16<s.size
  ·have hn:Hid (nameB s=false):=by
    unfold Hid nameB
    cases h:nameL s.data.toList with
    | false=>rfl
    | true=>exact absurd (nameL_len h) (by omega)
   have h1':(16:Int)<s.size:=by omega
   rw [hn.out]
   go_enter Tryz.func162,Tryz.ntmps162
   go_wp2
   go_ret
   exact ⟨rfl,rfl⟩
  ·have h1':¬ (16:Int)<s.size:=by omega
   have hp:0<s.size:=by omega
   have hh:hd s.data.toList=s[0].toNat:=by simpa using hd_drop s 0 hp
   have A:Hid (∀ W:World,Calls Tryz.prog 173 #[.int .u8 s[0].toNat] W fun e w'=>e=.returned (.bool (lowN (hd s.data.toList)))∧w'=W):=fun W=>by
    rw [hh]
    exact aletter_any _ W s[0].toNat_lt
   have R:Hid (∀ W:World,Calls Tryz.prog 174 #[.string s] W fun e w'=>e=.returned (.bool (resv.contains s.data.toList))∧w'=W):=fun W=>reserved_any s W
   by_cases hb:lowN (hd s.data.toList)=true
   ·by_cases hr:resv.contains s.data.toList=true
    ·have hn:Hid (nameB s=false):=by unfold Hid nameB nameL;rw [hr];simp
     rw [hn.out]
     rw [hb] at A
     rw [hr] at R
     clear hh hb hr
     go_enter Tryz.func162,Tryz.ntmps162
     go_wp2_with fail
     refine (A.out _).mono ?_
     rintro e w1 ⟨rfl,rfl⟩
     go_wp2_with fail
     refine (R.out _).mono ?_
     rintro e w1 ⟨rfl,rfl⟩
     go_wp2
     go_ret
     exact ⟨rfl,rfl⟩
    ·have hr':resv.contains s.data.toList=false:=by simpa using hr
     have hn:Hid (nameB s=inAll s.data.toList):=nameL_all (by omega) (by omega) hb hr'
     rw [hn.out]
     rw [hb] at A
     rw [hr'] at R
     clear hh hb hr hr' hn
     obtain ⟨n,en⟩:∃ n:Nat,Hid (s.size=n):=⟨_,rfl⟩
     go_enter Tryz.func162,Tryz.ntmps162
     go_wp2_with fail
     refine (A.out _).mono ?_
     rintro e w1 ⟨rfl,rfl⟩
     go_wp2_with fail
     refine (R.out _).mono ?_
     rintro e w1 ⟨rfl,rfl⟩
     clear A R
     go_wp2
     go_loop [24] (fun i=>∃ k:Nat,k≤s.size∧i=.int .i64 k∧Hid (inAll s.data.toList=inAll (s.data.toList.drop k))) (fun i=>s.size - (intOf i).toNat)
     case atStart=>exact ⟨0,Nat.zero_le _,rfl,by simp [Hid]⟩
     case round=>
      obtain ⟨k,hk,rfl,hrr⟩:=hrel
      by_cases hlt:k<s.size
      ·have hd1:s.data.toList.drop k=s[k]::s.data.toList.drop (k+1):=by
        rw [List.drop_eq_getElem_cons (by omega)]
        rfl
       have hr2:Hid (inAll s.data.toList=(inwN s[k].toNat && inAll (s.data.toList.drop (k+1)))):=by
        have h:=hrr.out
        rw [hd1] at h
        exact h
       have hlt':(k:Int)<s.size:=by omega
       have hC:=s[k].toNat_lt
       have A:Hid (∀ W:World,Calls Tryz.prog 173 #[.int .u8 s[k].toNat] W fun e w'=>e=.returned (.bool (lowN s[k].toNat))∧w'=W):=fun W=>aletter_any _ W hC
       clear hrr hd1
       obtain ⟨c,ec⟩:∃ c:Nat,Hid (s[k].toNat=c):=⟨_,(show s[k].toNat=s[k].toNat from rfl)⟩
       rw [ec.out] at A hr2 hC
       have ec2:=ec.out
       cases hA:lowN c with
       | true=>
        have hr3:Hid (inAll s.data.toList=inAll (s.data.toList.drop (k+1))):=by
         have h:=hr2.out
         have hi:inwN c=true:=by unfold inwN;rw [hA];rfl
         rw [hi,Bool.true_and] at h
         exact h
        rw [hA] at A
        go_wp2_with fail
        refine (A.out _).mono ?_
        rintro e w1 ⟨rfl,rfl⟩
        clear A
        go_wp2
        exact ⟨⟨k+1,by omega,by go_num,hr3⟩,by simp [intOf];omega⟩
       | false=>
        rw [hA] at A
        by_cases hI:inwN c=true
        ·have hr3:Hid (inAll s.data.toList=inAll (s.data.toList.drop (k+1))):=by
          have h:=hr2.out
          rw [hI,Bool.true_and] at h
          exact h
         have hx:(48≤c∧c≤57)∨c=95:=by
          unfold inwN digN at hI
          rw [hA] at hI
          simpa using hI
         rcases hx with ⟨x1,x2⟩ | x3
         ·have y1:¬ (c:Int)<48:=by omega
          have y2:¬ (57:Int)<c:=by omega
          clear hI
          go_wp2_with fail
          refine (A.out _).mono ?_
          rintro e w1 ⟨rfl,rfl⟩
          clear A
          go_wp2
          exact ⟨⟨k+1,by omega,by go_num,hr3⟩,by simp [intOf];omega⟩
         ·subst x3
          clear hI
          go_wp2_with fail
          refine (A.out _).mono ?_
          rintro e w1 ⟨rfl,rfl⟩
          clear A
          go_wp2
          exact ⟨⟨k+1,by omega,by go_num,hr3⟩,by simp [intOf];omega⟩
        ·have hI':inwN c=false:=by simpa using hI
         have hr3:Hid (inAll s.data.toList=false):=by
          have h:=hr2.out
          rw [hI',Bool.false_and] at h
          exact h
         have hx:(c<48∨57<c)∧c≠95:=by
          unfold inwN digN at hI'
          rw [hA] at hI'
          simp at hI'
          omega
         have y3:((c:Int)==95)=false:=by simp;omega
         clear hI hI'
         rcases hx.1 with x1 | x1
         ·have y1:(c:Int)<48:=by omega
          go_wp2_with fail
          refine (A.out _).mono ?_
          rintro e w1 ⟨rfl,rfl⟩
          clear A
          go_wp2
          go_ret
          exact ⟨retb hr3.out.symm,rfl⟩
         ·have y1:¬ (c:Int)<48:=by omega
          have y2:(57:Int)<c:=by omega
          go_wp2_with fail
          refine (A.out _).mono ?_
          rintro e w1 ⟨rfl,rfl⟩
          clear A
          go_wp2
          go_ret
          exact ⟨retb hr3.out.symm,rfl⟩
      ·have hlt':¬ (k:Int)<s.size:=by omega
       have hr3:Hid (inAll s.data.toList=true):=by
        have h:=hrr.out
        rw [List.drop_eq_nil_of_le (by omega)] at h
        exact h
       go_wp2
       go_ret
       exact ⟨retb hr3.out.symm,rfl⟩
   ·have hb':lowN (hd s.data.toList)=false:=by simpa using hb
    have hn:Hid (nameB s=false):=by unfold Hid nameB nameL;rw [hb'];simp
    rw [hn.out]
    rw [hb'] at A
    clear hh hb hb'
    go_enter Tryz.func162,Tryz.ntmps162
    go_wp2_with fail
    refine (A.out _).mono ?_
    rintro e w1 ⟨rfl,rfl⟩
    go_wp2
    go_ret
    exact ⟨rfl,rfl⟩
end Go.Proofs.YthodedagbbifbaaGreat
namespace Go.Proofs.YthodedagbbifbaaGreat
open Go.RowKit Go.Extern.Stop Go.Stop Go.Extern
set_option linter.unusedVariables false
theorem bgX {n:Nat} {W0 W w1:World} (h0:Below n W0 W) (hn:n≤W.heap.size) (hb:Below W.heap.size W w1):Below n W0 w1∧n≤w1.heap.size:=⟨h0.trans (hb.mono hn),Nat.le_trans hn hb.size⟩
end Go.Proofs.YthodedagbbifbaaGreat
namespace Go.Proofs.YthodedagbbifbaaGreat
def sz (n:Int):Int:=(n.natAbs:Int)
def gc (a b:Int):Int:=((Nat.gcd a.toNat b.toNat:Nat):Int)
theorem sz_of_neg {n:Int} (h:n<0):sz n= -n:=by unfold sz;omega
theorem sz_of_nonneg {n:Int} (h:0≤n):sz n=n:=by unfold sz;omega
theorem sz_nonneg (n:Int):0≤sz n:=by unfold sz;omega
theorem sz_le {n:Int} (h1: -9223372036854775808≤n) (h2:n≤9223372036854775807):sz n≤9223372036854775808:=by unfold sz;omega
theorem gc_zero (a:Int) (h:0≤a):gc a 0=a:=by unfold gc;simp;omega
theorem gc_step (a b:Int) (ha:0≤a) (hb:0<b):gc b (a % b)=gc a b:=by
 unfold gc
 have e:(a % b).toNat=a.toNat % b.toNat:=by
  obtain ⟨x,rfl⟩:=Int.eq_ofNat_of_zero_le ha
  obtain ⟨y,rfl⟩:=Int.eq_ofNat_of_zero_le (Int.le_of_lt hb)
  simp [← Int.natCast_emod]
 rw [e,Nat.gcd_comm b.toNat,← Nat.gcd_rec,Nat.gcd_comm]
def sg (b:Bool) (n:Int):Int:=if b then -n else n
def okF (p q:Int):Bool:=decide (-9223372036854775808≤p∧p≤9223372036854775807∧q≤9223372036854775807)
def outN (p q:Int):Int:=if okF p q then p else 0
def outD (p q:Int):Int:=if okF p q then q else 0
def outE (p q:Int):Int:=if okF p q then 0 else 10
def rN (p q:Int):Int:=outN (p / gc (sz p) q) (q / gc (sz p) q)
def rD (p q:Int):Int:=outD (p / gc (sz p) q) (q / gc (sz p) q)
def rE (p q:Int):Int:=outE (p / gc (sz p) q) (q / gc (sz p) q)
theorem sz_sg (b:Bool) (n:Int):sz (sg b n)=sz n:=by unfold sz sg;split<;>omega
theorem gc_pos (a b:Int) (hb:0<b):0<gc a b:=by
 unfold gc
 have:0<Nat.gcd a.toNat b.toNat:=Nat.gcd_pos_of_pos_right _ (by omega)
 omega
theorem gc_le (a b:Int) (hb:0<b):gc a b≤b:=by
 unfold gc
 have:Nat.gcd a.toNat b.toNat≤b.toNat:=Nat.gcd_le_right _ (by omega)
 omega
theorem gc_dvd_left (a b:Int) (ha:0≤a):gc a b∣a:=by
 unfold gc
 have h:=Int.natCast_dvd_natCast.2 (Nat.gcd_dvd_left a.toNat b.toNat)
 have e:((a.toNat:Nat):Int)=a:=by omega
 rwa [e] at h
theorem gc_dvd_right (a b:Int) (hb:0≤b):gc a b∣b:=by
 unfold gc
 have h:=Int.natCast_dvd_natCast.2 (Nat.gcd_dvd_right a.toNat b.toNat)
 have e:((b.toNat:Nat):Int)=b:=by omega
 rwa [e] at h
theorem sg_div (b:Bool) (n g:Int) (h:g∣n):sg b (n / g)=sg b n / g:=by
 unfold sg;split
 ·exact (Int.neg_ediv_of_dvd h).symm
 ·rfl
theorem sg_sz (n:Int) (b:Bool):sg (decide (n<0) != b) (sz n)=sg b n:=by
 unfold sg sz
 by_cases h:n<0<;>cases b<;>simp [h]<;>omega
theorem div_le_self (a g:Int) (ha:0≤a) (hg:0<g):a / g≤a:=by
 have h1:=Int.ediv_mul_le a (show g≠0 by omega)
 have h2:0≤a / g:=Int.ediv_nonneg ha (by omega)
 have h3:a / g*1≤a / g*g:=Int.mul_le_mul_of_nonneg_left (by omega) h2
 omega
end Go.Proofs.YthodedagbbifbaaGreat
namespace Go.Proofs.YthodedagbbifbaaGreat
open Go.RowKit
theorem ret_int {k:IntKind} {a b:Int} (h:a=b):Ending.returned (.int k a)=.returned (.int k b):=by rw [h]
theorem bdrewN {B:Nat} {a w:World} (n:Nat) (h:Below B a w):Below B a (w.drewN n):=⟨h.os,h.tape,h.output,h.size,h.block⟩
theorem bf {w W w1:World} (h0:Below w.heap.size w W) (hb:Below W.heap.size W w1):
  (∀ b o,b<W.heap.size→w1.cell? ⟨b,o,none⟩=W.cell? ⟨b,o,none⟩)∧(∀ b o,b<W.heap.size→w1.frozen? ⟨b,o,none⟩=W.frozen? ⟨b,o,none⟩)∧W.heap.size≤w1.heap.size∧Below w.heap.size w w1:=
 ⟨fun b o h=>hb.cell (p:=⟨b,o,none⟩) h,fun b o h=>hb.frozen (p:=⟨b,o,none⟩) h,hb.size,h0.trans (hb.mono h0.size)⟩
theorem size_any (n:Int) (w:World) (h1: -9223372036854775808≤n) (h2:n≤9223372036854775807):
  Calls Tryz.prog 179 #[.int .i64 n] w fun e w'=>e=.returned (.int .u64 (sz n))∧w'=w:=by
 by_cases h:n<0
 ·go_enter Tryz.func179,Tryz.ntmps179
  go_wp2
  go_ret
  exact ⟨ret_int (by rw [sz_of_neg h];go_arith),rfl⟩
 ·have h':0≤n:=by omega
  go_enter Tryz.func179,Tryz.ntmps179
  go_wp2
  go_ret
  exact ⟨ret_int (by rw [sz_of_nonneg h']),rfl⟩
theorem divisor_any (a b:Int) (w:World) (ha:0≤a) (hb:0≤b) (ha':a≤18446744073709551615) (hb':b≤18446744073709551615):
  Calls Tryz.prog 180 #[.int .u64 a,.int .u64 b] w fun e w'=>e=.returned (.int .u64 (gc a b))∧∃ k,w'=w.drewN k:=by
 go_enter Tryz.func180,Tryz.ntmps180
 go_wp2
 go_loopw [0,1] (fun u v wr=>∃ x y:Int,0≤x∧0≤y∧x≤18446744073709551615∧y≤18446744073709551615∧Hid (gc x y=gc a b)∧u=.int .u64 x∧v=.int .u64 y∧∃ k,wr=w.drewN k) (fun _ v _=>(intOf v).toNat)
 case atStart=>exact ⟨a,b,ha,hb,ha',hb',rfl,rfl,rfl,0,rfl⟩
 case round=>
  obtain ⟨x,y,hx,hy,hx',hy',hg,rfl,rfl,k,rfl⟩:=hrel
  by_cases hz:y=0
  ·subst hz
   go_wp2
   go_ret
   exact ⟨ret_int (by rw [← hg.out,gc_zero _ hx]),k,rfl⟩
  ·have hz':(y != 0)=true:=by simpa using hz
   have hp:0<y:=by omega
   go_wp2
   go_quiet (fail)
   go_wp2
   exact ⟨⟨y,x % y,hy,Int.emod_nonneg _ hz,hy',by have:=Int.emod_lt_of_pos x hp;omega,(gc_step x y hx hp).trans hg.out,rfl,rfl,k+nq,World.drewN_drewN ..⟩,by have:=Int.emod_lt_of_pos x hp;have:=Int.emod_nonneg x hz;simp [intOf];omega⟩
theorem out_yes {p q:Int} (h1: -9223372036854775808≤p) (h2:p≤9223372036854775807) (h3:q≤9223372036854775807):outN p q=p∧outD p q=q∧outE p q=0:=by
 have h:okF p q=true:=by simp [okF];omega
 simp [outN,outD,outE,h]
theorem out_no {p q:Int} (h:¬ (-9223372036854775808≤p∧p≤9223372036854775807∧q≤9223372036854775807)):outN p q=0∧outD p q=0∧outE p q=10:=by
 have h:okF p q=false:=by simp [okF];omega
 simp [outN,outD,outE,h]
theorem ret_frac {a b c a' b' c':Int} (h1:a=a') (h2:b=b') (h3:c=c'):Ending.returned (.tuple #[.agg #[.int .i64 a,.int .i64 b],.int .i64 c])=Ending.returned (.tuple #[.agg #[.int .i64 a',.int .i64 b'],.int .i64 c']):=by rw [h1,h2,h3]
theorem fit_any (b:Bool) (n d:Int) (w:World) (h0:0≤n) (h1:n≤18446744073709551615) (g0:0≤d) (g1:d≤18446744073709551615):
  Calls Tryz.prog 181 #[.agg #[.bool b,.int .u64 n,.int .u64 d]] w fun e w'=>e=.returned (.tuple #[.agg #[.int .i64 (outN (sg b n) d),.int .i64 (outD (sg b n) d)],.int .i64 (outE (sg b n) d)])∧Below w.heap.size w w':=by
 cases b
 ·by_cases a1:n≤9223372036854775807
  ·by_cases a2:d≤9223372036854775807
   ·obtain ⟨e1,e2,e3⟩:=out_yes (p:=n) (q:=d) (by omega) a1 a2
    have H1:Hid (outN (sg false n) d=n):=e1
    have H2:Hid (outD (sg false n) d=d):=e2
    have H3:Hid (outE (sg false n) d=0):=e3
    clear e1 e2 e3
    go_enter Tryz.func181,Tryz.ntmps181
    go_wp2
    go_returns
    exact ⟨ret_frac H1.out.symm H2.out.symm H3.out.symm,by go_grown⟩
   ·obtain ⟨e1,e2,e3⟩:=out_no (p:=n) (q:=d) (by omega)
    have H1:Hid (outN (sg false n) d=0):=e1
    have H2:Hid (outD (sg false n) d=0):=e2
    have H3:Hid (outE (sg false n) d=10):=e3
    clear e1 e2 e3
    go_enter Tryz.func181,Tryz.ntmps181
    go_wp2
    go_returns
    exact ⟨ret_frac H1.out.symm H2.out.symm H3.out.symm,by go_grown⟩
  ·obtain ⟨e1,e2,e3⟩:=out_no (p:=n) (q:=d) (by omega)
   have H1:Hid (outN (sg false n) d=0):=e1
   have H2:Hid (outD (sg false n) d=0):=e2
   have H3:Hid (outE (sg false n) d=10):=e3
   clear e1 e2 e3
   go_enter Tryz.func181,Tryz.ntmps181
   go_wp2
   go_returns
   exact ⟨ret_frac H1.out.symm H2.out.symm H3.out.symm,by go_grown⟩
 ·by_cases a1:n≤9223372036854775808
  ·by_cases a2:d≤9223372036854775807
   ·obtain ⟨e1,e2,e3⟩:=out_yes (p:= -n) (q:=d) (by omega) (by omega) a2
    have H1:Hid (outN (sg true n) d= -n):=e1
    have H2:Hid (outD (sg true n) d=d):=e2
    have H3:Hid (outE (sg true n) d=0):=e3
    clear e1 e2 e3
    go_enter Tryz.func181,Tryz.ntmps181
    go_wp2
    go_returns
    exact ⟨ret_frac (H1.out.trans (by go_arith)).symm H2.out.symm H3.out.symm,by go_grown⟩
   ·obtain ⟨e1,e2,e3⟩:=out_no (p:= -n) (q:=d) (by omega)
    have H1:Hid (outN (sg true n) d=0):=e1
    have H2:Hid (outD (sg true n) d=0):=e2
    have H3:Hid (outE (sg true n) d=10):=e3
    clear e1 e2 e3
    go_enter Tryz.func181,Tryz.ntmps181
    go_wp2
    go_returns
    exact ⟨ret_frac H1.out.symm H2.out.symm H3.out.symm,by go_grown⟩
  ·obtain ⟨e1,e2,e3⟩:=out_no (p:= -n) (q:=d) (by omega)
   have H1:Hid (outN (sg true n) d=0):=e1
   have H2:Hid (outD (sg true n) d=0):=e2
   have H3:Hid (outE (sg true n) d=10):=e3
   clear e1 e2 e3
   go_enter Tryz.func181,Tryz.ntmps181
   go_wp2
   go_returns
   exact ⟨ret_frac H1.out.symm H2.out.symm H3.out.symm,by go_grown⟩
theorem u64_tdiv (a b:Int) (ha:0≤a) (ha':a≤18446744073709551615) (hb:0<b):IntKind.u64.wrap (a.tdiv b)=a / b:=by
 rw [Int.tdiv_eq_ediv_of_nonneg ha,IntKind.wrap_u64]
 have h1:=div_le_self a b ha hb
 have h2:0≤a / b:=Int.ediv_nonneg ha (by omega)
 omega
theorem of_zero (n:Int) (w:World):
  Calls Tryz.prog 175 #[.int .i64 n,.int .i64 0] w fun e w'=>e=.returned (.tuple #[.agg #[.int .i64 0,.int .i64 0],.int .i64 11])∧Below w.heap.size w w':=by
 go_enter Tryz.func175,Tryz.ntmps175
 go_wp2
 go_returns
 exact ⟨rfl,by go_grown⟩
theorem of_raw (n d:Int) (w:World) (h1: -9223372036854775808≤n) (h2:n≤9223372036854775807) (g1: -9223372036854775808≤d) (g2:d≤9223372036854775807) (hd:(d==0)=false):
  Calls Tryz.prog 175 #[.int .i64 n,.int .i64 d] w fun e w'=>(∃ b:Bool,b=(!(decide (n<0)==decide (d<0)))∧e=.returned (.tuple #[.agg #[.int .i64 (outN (sg b (sz n / gc (sz n) (sz d))) (sz d / gc (sz n) (sz d))),.int .i64 (outD (sg b (sz n / gc (sz n) (sz d))) (sz d / gc (sz n) (sz d)))],.int .i64 (outE (sg b (sz n / gc (sz n) (sz d))) (sz d / gc (sz n) (sz d)))]))∧Below w.heap.size w w':=by
 have hd':d≠0:=by simpa using hd
 have hz:0<sz d:=by unfold sz;omega
 have hz2:=sz_nonneg n
 have hz3:=sz_le h1 h2
 have hz4:=sz_le g1 g2
 have hp:=gc_pos (sz n) (sz d) hz
 have q1:0≤sz n / gc (sz n) (sz d):=Int.ediv_nonneg hz2 (by omega)
 have q2:0≤sz d / gc (sz n) (sz d):=Int.ediv_nonneg (by omega) (by omega)
 have q3:=div_le_self (sz n) _ hz2 hp
 have q4:=div_le_self (sz d) _ (by omega) hp
 have hne:¬ gc (sz n) (sz d)=0:=by omega
 have t1:=u64_tdiv (sz n) (gc (sz n) (sz d)) hz2 (by omega) hp
 have t2:=u64_tdiv (sz d) (gc (sz n) (sz d)) (by omega) (by omega) hp
 clear hd'
 go_enter Tryz.func175,Tryz.ntmps175
 go_wp2_with (first
  | (go_at_call 179;refine (size_any _ _ (by omega) (by omega)).mono ?_;rintro e w' ⟨rfl,rfl⟩)
  | (go_at_call 180;refine (divisor_any _ _ _ (by omega) (by omega) (by omega) (by omega)).mono ?_;rintro e w' ⟨rfl,k,rfl⟩))
 go_region_held3 (fun _=>True) (trivial)
  (first
   | (go_at_call 181;refine (fit_any _ _ _ _ q1 (by omega) q2 (by omega)).mono ?_;rintro e w1 ⟨rfl,hb⟩;obtain ⟨hc,hf,hz5,hB⟩:=bf (w:=w) (bdrewN _ (by go_grown)) hb))
 go_wp2
 refine bodyPost_ret (by simp [results,Tryz.results175,go_sem,hc];try rfl) rfl ?_
 refine ⟨⟨_,rfl,rfl⟩, ?_⟩
 go_grown
def ofP (n d:Int):Int:=sg (decide (d<0)) n
theorem of_any (n d:Int) (w:World) (h1: -9223372036854775808≤n) (h2:n≤9223372036854775807) (g1: -9223372036854775808≤d) (g2:d≤9223372036854775807) (hd:(d==0)=false):
  Calls Tryz.prog 175 #[.int .i64 n,.int .i64 d] w fun e w'=>e=.returned (.tuple #[.agg #[.int .i64 (rN (ofP n d) (sz d)),.int .i64 (rD (ofP n d) (sz d))],.int .i64 (rE (ofP n d) (sz d))])∧Below w.heap.size w w':=by
 refine (of_raw n d w h1 h2 g1 g2 hd).mono ?_
 rintro e w' ⟨⟨b,rfl,rfl⟩,hb⟩
 refine ⟨?_,hb⟩
 have e1:sg (!(decide (n<0)==decide (d<0))) (sz n / gc (sz n) (sz d))=ofP n d / gc (sz n) (sz d):=by
  rw [sg_div _ _ _ (gc_dvd_left _ _ (sz_nonneg n))]
  exact congrArg (·/ gc (sz n) (sz d)) (sg_sz n (decide (d<0)))
 have e2:sz (ofP n d)=sz n:=sz_sg _ _
 unfold rN rD rE
 rw [e1,e2]
def oN (n d:Int):Int:=if d=0 then 0 else rN (ofP n d) (sz d)
def oD (n d:Int):Int:=if d=0 then 0 else rD (ofP n d) (sz d)
def oE (n d:Int):Int:=if d=0 then 11 else rE (ofP n d) (sz d)
theorem of_all (n d:Int) (w:World) (h1: -9223372036854775808≤n) (h2:n≤9223372036854775807) (g1: -9223372036854775808≤d) (g2:d≤9223372036854775807):
  Calls Tryz.prog 175 #[.int .i64 n,.int .i64 d] w fun e w'=>e=.returned (.tuple #[.agg #[.int .i64 (oN n d),.int .i64 (oD n d)],.int .i64 (oE n d)])∧Below w.heap.size w w':=by
 unfold oN oD oE
 by_cases h:d=0
 ·subst h;simpa using of_zero n w
 ·simpa [h] using of_any n d w h1 h2 g1 g2 (by simpa using h)
def mayB (n d:Int):Bool:=oE n d==0 && (oN n d==n && oD n d==d)
end Go.Proofs.YthodedagbbifbaaGreat
namespace Go.Proofs
open Go.Shelf
def Tryz.laysM316_ren:Go.Shelf.Ren:=⟨fun | 316=>134 | n=>n,fun | 9=>9 | 3=>3 | 4=>4 | 37=>175 | 0=>0 | 127=>176 | 5=>5 | n=>n,fun | n=>n⟩
theorem Tryz.laysM316:Go.Proofs.LaysM.n316 Tryz.prog Tryz.laysM316_ren:={
 mixed:=by kernel_rfl
 f316:=Tryz.func134.trans (congrArg some (by kernel_rfl))
 t0:=Tryz.underlying0
 a0:=Tryz.isAgg0
 z0:=Tryz.sizeOf0
 v0:=Tryz.zeroValue0
 t3:=Tryz.underlying3
 a3:=Tryz.isAgg3
 z3:=Tryz.sizeOf3
 v3:=Tryz.zeroValue3
 t4:=Tryz.underlying4
 a4:=Tryz.isAgg4
 z4:=Tryz.sizeOf4
 v4:=Tryz.zeroValue4
 t9:=Tryz.underlying9
 a9:=Tryz.isAgg9
 z9:=Tryz.sizeOf9
 v9:=Tryz.zeroValue9
 t37:=Tryz.underlying175
 a37:=Tryz.isAgg175
 z37:=Tryz.sizeOf175
 v37:=Tryz.zeroValue175
 t127:=Tryz.underlying176
 a127:=Tryz.isAgg176
 z127:=Tryz.sizeOf176
 v127:=Tryz.zeroValue176
 t5:=Tryz.underlying5
 a5:=Tryz.isAgg5
 z5:=Tryz.sizeOf5
 v5:=Tryz.zeroValue5
 i0:=by kernel_rfl
 i3:=by kernel_rfl
 i4:=by kernel_rfl
 i5:=by kernel_rfl
 i9:=by kernel_rfl
 i37:=by kernel_rfl
 i127:=by kernel_rfl}
open Go.RowKit in
theorem Tryz.stringslite_Clone (s:ByteArray) (w:World) (hlim:s.size≤281474976710656):
  Calls Tryz.prog 134 #[.string s] w fun e w'=>e=.returned (.string s)∧Below w.heap.size w w':=Any.stringslite_Clone Tryz.laysM316 s w hlim
def Tryz.lays190_ren:Go.Shelf.Ren:=⟨fun | 190=>119 | 125=>137 | 258=>136 | 128=>157 | 129=>158 | 302=>148 | 303=>149 | 304=>150 | 305=>151 | 306=>152 | 307=>153 | 308=>154 | 309=>155 | 310=>156 | 333=>164 | 329=>165 | 330=>166 | 334=>167 | 335=>168 | 336=>169 | 344=>176 | n=>n,fun | 31=>22 | 9=>9 | 3=>3 | 46=>163 | 0=>0 | 51=>187 | 53=>189 | 4=>4 | 183=>179 | 182=>178 | 131=>184 | 5=>5 | 218=>197 | 222=>201 | 228=>211 | 229=>212 | n=>n,fun | n=>n⟩
theorem Tryz.lays190:Go.Proofs.Lays.n190 Tryz.prog Tryz.lays190_ren:={
 mixed:=by kernel_rfl
 f125:=Tryz.func137.trans (congrArg some (by kernel_rfl))
 f128:=Tryz.func157.trans (congrArg some (by kernel_rfl))
 f129:=Tryz.func158.trans (congrArg some (by kernel_rfl))
 f190:=Tryz.func119.trans (congrArg some (by kernel_rfl))
 f258:=Tryz.func136.trans (congrArg some (by kernel_rfl))
 f302:=Tryz.func148.trans (congrArg some (by kernel_rfl))
 f303:=Tryz.func149.trans (congrArg some (by kernel_rfl))
 f304:=Tryz.func150.trans (congrArg some (by kernel_rfl))
 f305:=Tryz.func151.trans (congrArg some (by kernel_rfl))
 f306:=Tryz.func152.trans (congrArg some (by kernel_rfl))
 f307:=Tryz.func153.trans (congrArg some (by kernel_rfl))
 f308:=Tryz.func154.trans (congrArg some (by kernel_rfl))
 f309:=Tryz.func155.trans (congrArg some (by kernel_rfl))
 f310:=Tryz.func156.trans (congrArg some (by kernel_rfl))
 f329:=Tryz.func165.trans (congrArg some (by kernel_rfl))
 f330:=Tryz.func166.trans (congrArg some (by kernel_rfl))
 f333:=Tryz.func164.trans (congrArg some (by kernel_rfl))
 f334:=Tryz.func167.trans (congrArg some (by kernel_rfl))
 f335:=Tryz.func168.trans (congrArg some (by kernel_rfl))
 f336:=Tryz.func169.trans (congrArg some (by kernel_rfl))
 f344:=Tryz.func176.trans (congrArg some (by kernel_rfl))
 t0:=Tryz.underlying0
 a0:=Tryz.isAgg0
 z0:=Tryz.sizeOf0
 v0:=Tryz.zeroValue0
 t3:=Tryz.underlying3
 a3:=Tryz.isAgg3
 z3:=Tryz.sizeOf3
 v3:=Tryz.zeroValue3
 t4:=Tryz.underlying4
 a4:=Tryz.isAgg4
 z4:=Tryz.sizeOf4
 v4:=Tryz.zeroValue4
 t5:=Tryz.underlying5
 a5:=Tryz.isAgg5
 z5:=Tryz.sizeOf5
 v5:=Tryz.zeroValue5
 t9:=Tryz.underlying9
 a9:=Tryz.isAgg9
 z9:=Tryz.sizeOf9
 v9:=Tryz.zeroValue9
 t31:=Tryz.underlying22
 a31:=Tryz.isAgg22
 z31:=Tryz.sizeOf22
 v31:=Tryz.zeroValue22
 t46:=Tryz.underlying163
 a46:=Tryz.isAgg163
 z46:=Tryz.sizeOf163
 v46:=Tryz.zeroValue163
 t51:=Tryz.underlying187
 a51:=Tryz.isAgg187
 z51:=Tryz.sizeOf187
 v51:=Tryz.zeroValue187
 t53:=Tryz.underlying189
 a53:=Tryz.isAgg189
 z53:=Tryz.sizeOf189
 v53:=Tryz.zeroValue189
 t131:=Tryz.underlying184
 a131:=Tryz.isAgg184
 z131:=Tryz.sizeOf184
 v131:=Tryz.zeroValue184
 t182:=Tryz.underlying178
 a182:=Tryz.isAgg178
 z182:=Tryz.sizeOf178
 v182:=Tryz.zeroValue178
 t183:=Tryz.underlying179
 a183:=Tryz.isAgg179
 z183:=Tryz.sizeOf179
 v183:=Tryz.zeroValue179
 t218:=Tryz.underlying197
 a218:=Tryz.isAgg197
 z218:=Tryz.sizeOf197
 v218:=Tryz.zeroValue197
 t222:=Tryz.underlying201
 a222:=Tryz.isAgg201
 z222:=Tryz.sizeOf201
 v222:=Tryz.zeroValue201
 t228:=Tryz.underlying211
 a228:=Tryz.isAgg211
 z228:=Tryz.sizeOf211
 v228:=Tryz.zeroValue211
 t229:=Tryz.underlying212
 a229:=Tryz.isAgg212
 z229:=Tryz.sizeOf212
 v229:=Tryz.zeroValue212}
def Tryz.lays110_ren:Go.Shelf.Ren:=⟨fun | 110=>79 | 109=>107 | n=>n,fun | 31=>22 | 9=>9 | 4=>4 | 3=>3 | 0=>0 | n=>n,fun | n=>n⟩
theorem Tryz.lays110:Go.Proofs.Lays.n110 Tryz.prog Tryz.lays110_ren:={
 mixed:=by kernel_rfl
 f109:=Tryz.func107.trans (congrArg some (by kernel_rfl))
 f110:=Tryz.func79.trans (congrArg some (by kernel_rfl))
 t0:=Tryz.underlying0
 a0:=Tryz.isAgg0
 z0:=Tryz.sizeOf0
 v0:=Tryz.zeroValue0
 t3:=Tryz.underlying3
 a3:=Tryz.isAgg3
 z3:=Tryz.sizeOf3
 v3:=Tryz.zeroValue3
 t4:=Tryz.underlying4
 a4:=Tryz.isAgg4
 z4:=Tryz.sizeOf4
 v4:=Tryz.zeroValue4
 t9:=Tryz.underlying9
 a9:=Tryz.isAgg9
 z9:=Tryz.sizeOf9
 v9:=Tryz.zeroValue9
 t31:=Tryz.underlying22
 a31:=Tryz.isAgg22
 z31:=Tryz.sizeOf22
 v31:=Tryz.zeroValue22}
open Go.Lib in
theorem Tryz.slices_Contains_string (b off n c:Nat) (zs:List ByteArray) (x:ByteArray) (w:World) (hz:n≤zs.length) (hbig:n≤9223372036854775807) (hc:∀ j,j<zs.length→w.cell? ⟨b,off+j,none⟩=some (.string (zs.getD j ByteArray.empty))):
  Calls Tryz.prog 79 #[.slice (some ⟨b,off,none⟩) n c,.string x] w fun e w'=>e=.returned (.bool (Lib.containsS (zs.take n) x))∧w'=w:=Any.slices_Contains_string Tryz.lays110 b off n c zs x w hz hbig hc
open Go.Lib in
theorem Tryz.slices_Contains_string_empty (a:Option Addr) (c:Nat) (x:ByteArray) (w:World):
  Calls Tryz.prog 79 #[.slice a 0 c,.string x] w fun e w'=>e=.returned (.bool false)∧w'=w:=Any.slices_Contains_string_empty Tryz.lays110 a c x w
def Tryz.lays193_ren:Go.Shelf.Ren:=⟨fun | 193=>111 | n=>n,fun | 31=>22 | 9=>9 | 4=>4 | 3=>3 | 0=>0 | n=>n,fun | n=>n⟩
theorem Tryz.lays193:Go.Proofs.Lays.n193 Tryz.prog Tryz.lays193_ren:={
 mixed:=by kernel_rfl
 f193:=Tryz.func111.trans (congrArg some (by kernel_rfl))
 t0:=Tryz.underlying0
 a0:=Tryz.isAgg0
 z0:=Tryz.sizeOf0
 v0:=Tryz.zeroValue0
 t3:=Tryz.underlying3
 a3:=Tryz.isAgg3
 z3:=Tryz.sizeOf3
 v3:=Tryz.zeroValue3
 t4:=Tryz.underlying4
 a4:=Tryz.isAgg4
 z4:=Tryz.sizeOf4
 v4:=Tryz.zeroValue4
 t9:=Tryz.underlying9
 a9:=Tryz.isAgg9
 z9:=Tryz.sizeOf9
 v9:=Tryz.zeroValue9
 t31:=Tryz.underlying22
 a31:=Tryz.isAgg22
 z31:=Tryz.sizeOf22
 v31:=Tryz.zeroValue22}
open Go.RowKit Go.Lib in
theorem Tryz.slices_Equal_string (b1 o1 n c b2 o2 m d:Nat) (xs ys:List ByteArray) (w:World) (hx:n≤xs.length) (hy:m≤ys.length) (hbig:n≤9223372036854775807) (hbig2:m≤9223372036854775807) (hc1:∀ j,j<xs.length→w.cell? ⟨b1,o1+j,none⟩=some (.string (xs.getD j ByteArray.empty))) (hc2:∀ j,j<ys.length→w.cell? ⟨b2,o2+j,none⟩=some (.string (ys.getD j ByteArray.empty))):
  Calls Tryz.prog 111 #[.slice (some ⟨b1,o1,none⟩) n c,.slice (some ⟨b2,o2,none⟩) m d] w fun e w'=>e=.returned (.bool (decide (xs.take n=ys.take m)))∧∃ q,w'=w.drewN q:=Any.slices_Equal_string Tryz.lays193 b1 o1 n c b2 o2 m d xs ys w hx hy hbig hbig2 hc1 hc2
open Go.RowKit Go.Lib in
theorem Tryz.slices_Equal_string_empty (a1 a2:Option Addr) (c m d:Nat) (w:World) (hbig2:m≤9223372036854775807):
  Calls Tryz.prog 111 #[.slice a1 0 c,.slice a2 m d] w fun e w'=>e=.returned (.bool (decide (m=0)))∧w'=w:=Any.slices_Equal_string_empty Tryz.lays193 a1 a2 c m d w hbig2
def Tryz.laysNm216_ren:Go.Shelf.Ren:=⟨fun | 16=>122 | n=>n,fun | 24=>22 | 9=>9 | 4=>4 | n=>n,fun | n=>n⟩
theorem Tryz.laysNm216:Go.Proofs.Lays2.n16 Tryz.prog Tryz.laysNm216_ren:={
 mixed:=by kernel_rfl
 f16:=Tryz.func122.trans (congrArg some (by kernel_rfl))
 t4:=Tryz.underlying4
 a4:=Tryz.isAgg4
 z4:=Tryz.sizeOf4
 v4:=Tryz.zeroValue4
 t9:=Tryz.underlying9
 a9:=Tryz.isAgg9
 z9:=Tryz.sizeOf9
 v9:=Tryz.zeroValue9
 t24:=Tryz.underlying22
 a24:=Tryz.isAgg22
 z24:=Tryz.sizeOf22
 v24:=Tryz.zeroValue22
 i9:=by kernel_rfl}
open Go.RowKit Go.Lib in
theorem Tryz.slices_Clone_string (b off n c:Nat) (zs:List ByteArray) (w:World) (hz:n≤zs.length) (hbig:n*16≤140737488355328) (hc:∀ j,j<zs.length→w.cell? ⟨b,off+j,none⟩=some (.string (zs.getD j ByteArray.empty))):
  Calls Tryz.prog 122 #[.slice (some ⟨b,off,none⟩) n c] w fun e w'=>∃ v',e=.returned v'∧w'.ownsRow w.heap.size 9 1 v' n ((zs.take n).map (Value.string))∧v'≠.slice none 0 0∧Below w.heap.size w w':=Any.slices_Clone_string Tryz.laysNm216 b off n c zs w hz hbig hc
open Go.RowKit Go.Lib in
theorem Tryz.slices_Clone_string_nil (n c:Nat) (w:World):
  Calls Tryz.prog 122 #[.slice none n c] w fun e w'=>e=.returned (.slice none 0 0)∧w'=w:=Any.slices_Clone_string_nil Tryz.laysNm216 n c w
open Go.RowKit Go.Lib in
theorem Tryz.slices_Clone_string_zero (a:Addr) (c:Nat) (w:World):
  Calls Tryz.prog 122 #[.slice (some a) 0 c] w fun e w'=>∃ v',e=.returned v'∧w'.ownsRow w.heap.size 9 1 v' 0 []∧v'≠.slice none 0 0∧Below w.heap.size w w':=Any.slices_Clone_string_zero Tryz.laysNm216 a c w
def Tryz.lays194_ren:Go.Shelf.Ren:=⟨fun | 194=>120 | n=>n,fun | 31=>22 | 9=>9 | 3=>3 | 4=>4 | 0=>0 | n=>n,fun | n=>n⟩
theorem Tryz.lays194:Go.Proofs.Lays.n194 Tryz.prog Tryz.lays194_ren:={
 mixed:=by kernel_rfl
 f194:=Tryz.func120.trans (congrArg some (by kernel_rfl))
 t0:=Tryz.underlying0
 a0:=Tryz.isAgg0
 z0:=Tryz.sizeOf0
 v0:=Tryz.zeroValue0
 t3:=Tryz.underlying3
 a3:=Tryz.isAgg3
 z3:=Tryz.sizeOf3
 v3:=Tryz.zeroValue3
 t4:=Tryz.underlying4
 a4:=Tryz.isAgg4
 z4:=Tryz.sizeOf4
 v4:=Tryz.zeroValue4
 t9:=Tryz.underlying9
 a9:=Tryz.isAgg9
 z9:=Tryz.sizeOf9
 v9:=Tryz.zeroValue9
 t31:=Tryz.underlying22
 a31:=Tryz.isAgg22
 z31:=Tryz.sizeOf22
 v31:=Tryz.zeroValue22}
open Go.RowKit Go.Lib Go.Sort in
theorem Tryz.slices_Compact_string (blk off cap:Nat) (zs:List (List UInt8)) (w:World) (hH:Holds encStr w blk off zs.toArray) (hsz:zs.length≤9223372036854775807) (hcap:zs.length≤cap):
  Calls Tryz.prog 120 #[.slice (some ⟨blk,off,none⟩) zs.length cap] w fun e w'=>e=.returned (.slice (some ⟨blk,off,none⟩) (Lib.compact zs).length cap)∧∃ q,w'=putRow encStr (Sort.ahead w q) blk off (Lib.compact zs++List.replicate (zs.length - (Lib.compact zs).length) []).toArray:=Any.slices_Compact_string Tryz.lays194 blk off cap zs w hH hsz hcap
open Go.RowKit Go.Lib Go.Sort in
theorem Tryz.slices_Compact_string_empty (a:Option Addr) (cap:Nat) (w:World):
  Calls Tryz.prog 120 #[.slice a 0 cap] w fun e w'=>e=.returned (.slice a 0 cap)∧w'=w:=Any.slices_Compact_string_empty Tryz.lays194 a cap w
open Go.RowKit Go.Lib in
theorem Tryz.slices_Equal_string_lens (a1 a2:Option Addr) (n c m d:Nat) (w:World) (hnm:n≠m):
  Calls Tryz.prog 111 #[.slice a1 n c,.slice a2 m d] w fun e w'=>e=.returned (.bool false)∧w'=w:=Any.slices_Equal_string_lens Tryz.lays193 a1 a2 n c m d w hnm
end Go.Proofs
namespace Go.Proofs.YthodedagbbifbaaGreat
open Go.RowKit Go.Shelf
def hi (x:Int):Int:=x / 18446744073709551616
def lo (x:Int):Int:=x % 18446744073709551616
theorem bcl {n:Nat} {W0 wx:World} (h:Below n W0 wx) {a:Addr} {v:Value} (hv:W0.cell? a=some v) (ha:a.block<n):wx.cell? a=some v:=(h.cell ha).trans hv
theorem may_of {n d:Int} (h:mayB n d=true):0<d∧Nat.Coprime n.natAbs d.toNat:=by
 unfold mayB oE oN oD at h
 by_cases hd:d=0
 ·simp [hd] at h
 ·simp only [hd,if_false,Bool.and_eq_true,beq_iff_eq] at h
  obtain ⟨h1,h2,h3⟩:=h
  have hs:0<sz d:=by unfold sz;omega
  have hg:=gc_pos (sz (ofP n d)) (sz d) hs
  have hdv:=gc_dvd_right (sz (ofP n d)) (sz d) (by omega)
  unfold rE outE at h1
  unfold rD outD at h3
  unfold rN outN at h2
  split at h1
  ·rename_i hok
   rw [if_pos hok] at h2 h3
   have hp:0<d:=by
    have:0≤sz d / gc (sz (ofP n d)) (sz d):=Int.ediv_nonneg (by omega) (by omega)
    omega
   have e1:sz d=d:=sz_of_nonneg (by omega)
   have e2:ofP n d=n:=by unfold ofP sg;simp [show ¬ d<0 by omega]
   rw [e1,e2] at h3 hdv hg
   have e3:=Int.ediv_mul_cancel hdv
   rw [h3] at e3
   have e4:gc (sz n) d=1:=by
    have:d*gc (sz n) d=d*1:=by rw [e3,Int.mul_one]
    exact Int.eq_of_mul_eq_mul_left (by omega) this
   refine ⟨hp, ?_⟩
   unfold gc sz at e4
   have:Nat.gcd ((n.natAbs:Int)).toNat d.toNat=1:=by omega
   simpa using this
  ·simp at h1
def pureB (k n d:Int) (s:ByteArray):Bool:=if k=1 then d==0 && s.toList.isEmpty else if k=2 then mayB n d && s.toList.isEmpty else if k=3 then n==0 && d==0 else false
def chk (k n d:Int) (s:ByteArray):Int:=if pureB k n d s=false then 20 else if 64<s.size then 2 else 0
theorem ret_bool {a b:Bool} (h:a=b):Ending.returned (.bool a)=.returned (.bool b):=by rw [h]
theorem pure_any (k n d:Int) (s:ByteArray) (w:World) (h1: -9223372036854775808≤n) (h2:n≤9223372036854775807) (g1: -9223372036854775808≤d) (g2:d≤9223372036854775807):
  Calls Tryz.prog 163 #[.agg #[.int .i64 k,.int .i64 n,.int .i64 d,.string s]] w fun e w'=>e=.returned (.bool (pureB k n d s))∧Below w.heap.size w w':=by
 by_cases k1:k=1
 ·subst k1
  cases hd:d==0
  ·go_enter Tryz.func163,Tryz.ntmps163
   go_wp2
   go_ret
   exact ⟨ret_bool (by simp [pureB,hd]),by go_grown⟩
  ·have hd':d=0:=by simpa using hd
   subst hd'
   go_enter Tryz.func163,Tryz.ntmps163
   go_wp2
   go_ret
   exact ⟨ret_bool (by simp [pureB]),by go_grown⟩
 ·have k1':(k==1)=false:=by simpa using k1
  by_cases k2:k=2
  ·subst k2
   have e0:pureB 2 n d s=(mayB n d && s.toList.isEmpty):=by simp [pureB]
   rw [e0]
   by_cases a1:oE n d=0
   ·cases m:(oN n d==n && oD n d==d)
    ·go_enter Tryz.func163,Tryz.ntmps163
     go_wp2_with (first
      | (go_at_call 175;refine (of_all _ _ _ h1 h2 g1 g2).mono ?_;rintro e w1 ⟨rfl,hb⟩;obtain ⟨hc,hf,hz,hB⟩:=bf (w:=w) (by go_grown) hb;simp only [World.size_alloc] at hz;have z0:w.heap.size<w1.heap.size:=(by omega)))
     all_goals
      go_ret
      exact ⟨ret_bool (by simp_all [mayB]),by go_grown⟩
    ·go_enter Tryz.func163,Tryz.ntmps163
     go_wp2_with (first
      | (go_at_call 175;refine (of_all _ _ _ h1 h2 g1 g2).mono ?_;rintro e w1 ⟨rfl,hb⟩;obtain ⟨hc,hf,hz,hB⟩:=bf (w:=w) (by go_grown) hb;simp only [World.size_alloc] at hz;have z0:w.heap.size<w1.heap.size:=(by omega)))
     all_goals
      go_ret
      exact ⟨ret_bool (by simp_all [mayB]),by go_grown⟩
   ·have a2:(oE n d==0)=false:=by simpa using a1
    go_enter Tryz.func163,Tryz.ntmps163
    go_wp2_with (first
     | (go_at_call 175;refine (of_all _ _ _ h1 h2 g1 g2).mono ?_;rintro e w1 ⟨rfl,hb⟩;obtain ⟨hc,hf,hz,hB⟩:=bf (w:=w) (by go_grown) hb;simp only [World.size_alloc] at hz;have z0:w.heap.size<w1.heap.size:=(by omega)))
    all_goals
     go_ret
     exact ⟨ret_bool (by simp [mayB,a2]),by go_grown⟩
  ·have k2':(k==2)=false:=by simpa using k2
   by_cases k3:k=3
   ·subst k3
    have e0:pureB 3 n d s=(n==0 && d==0):=by simp [pureB]
    rw [e0]
    cases hn:n==0
    ·go_enter Tryz.func163,Tryz.ntmps163
     go_wp2
     go_ret
     exact ⟨ret_bool (by simp),by go_grown⟩
    ·go_enter Tryz.func163,Tryz.ntmps163
     go_wp2
     go_ret
     exact ⟨ret_bool (by simp),by go_grown⟩
   ·have k3':(k==3)=false:=by simpa using k3
    have e0:pureB k n d s=false:=by simp [pureB,k1,k2,k3]
    rw [e0]
    go_enter Tryz.func163,Tryz.ntmps163
    go_wp2
    go_ret
    exact ⟨rfl,by go_grown⟩
theorem check_any (k n d:Int) (s:ByteArray) (w:World) (h1: -9223372036854775808≤n) (h2:n≤9223372036854775807) (g1: -9223372036854775808≤d) (g2:d≤9223372036854775807):
  Calls Tryz.prog 146 #[.agg #[.int .i64 k,.int .i64 n,.int .i64 d,.string s]] w fun e w'=>e=.returned (.int .i64 (chk k n d s))∧Below w.heap.size w w':=by
 cases hp:pureB k n d s
 ·have e0:chk k n d s=20:=by simp [chk,hp]
  rw [e0]
  go_enter Tryz.func146,Tryz.ntmps146
  go_wp2_with fail
  refine (pure_any k n d s _ h1 h2 g1 g2).mono ?_
  rintro e w1 ⟨rfl,hb⟩
  obtain ⟨hc,hf,hz,hB⟩:=bf (w:=w) (by go_grown) hb
  rw [hp]
  go_wp2
  go_ret
  exact ⟨rfl,hB⟩
 ·by_cases hl:64<s.size
  ·have e0:chk k n d s=2:=by simp [chk,hp,hl]
   rw [e0]
   have hl':(64:Int)<s.size:=by omega
   go_enter Tryz.func146,Tryz.ntmps146
   go_wp2_with fail
   refine (pure_any k n d s _ h1 h2 g1 g2).mono ?_
   rintro e w1 ⟨rfl,hb⟩
   obtain ⟨hc,hf,hz,hB⟩:=bf (w:=w) (by go_grown) hb
   rw [hp]
   go_wp2
   go_ret
   exact ⟨rfl,hB⟩
  ·have e0:chk k n d s=0:=by simp [chk,hp,hl]
   rw [e0]
   have hl':((64:Int)<s.size)=False:=by simp;omega
   go_enter Tryz.func146,Tryz.ntmps146
   go_wp2_with fail
   refine (pure_any k n d s _ h1 h2 g1 g2).mono ?_
   rintro e w1 ⟨rfl,hb⟩
   obtain ⟨hc,hf,hz,hB⟩:=bf (w:=w) (by go_grown) hb
   rw [hp]
   go_wp2
   go_ret
   exact ⟨rfl,hB⟩
end Go.Proofs.YthodedagbbifbaaGreat
namespace Go.Proofs.YthodedagbbifbaaGreat
theorem bit_step {a b x bit:Int} (hb:0<b) (hx:a=2*x+bit) (h0:0≤bit) (h1:bit≤1):
  (b≤2*(x % b)+bit→a % b=2*(x % b)+bit - b∧a / b=2*(x / b)+1)∧(2*(x % b)+bit<b→a % b=2*(x % b)+bit∧a / b=2*(x / b)):=by
 have e:=Int.mul_ediv_add_emod x b
 have m0:=Int.emod_nonneg x (show b≠0 by omega)
 have m1:=Int.emod_lt_of_pos x hb
 generalize x / b=q at*
 generalize x % b=r at*
 constructor
 ·intro h
  have ha:a=(2*r+bit - b)+b*(2*q+1):=by rw [hx,← e];grind
  refine ⟨?_, ?_⟩
  ·rw [ha,Int.add_mul_emod_self_left];exact Int.emod_eq_of_lt (by omega) (by omega)
  ·rw [ha,Int.add_mul_ediv_left _ _ (by omega),Int.ediv_eq_zero_of_lt (by omega) (by omega)];omega
 ·intro h
  have ha:a=(2*r+bit)+b*(2*q):=by rw [hx,← e];grind
  refine ⟨?_, ?_⟩
  ·rw [ha,Int.add_mul_emod_self_left];exact Int.emod_eq_of_lt (by omega) (by omega)
  ·rw [ha,Int.add_mul_ediv_left _ _ (by omega),Int.ediv_eq_zero_of_lt (by omega) (by omega)];omega
theorem pow_succ_i (k:Nat):(2:Int) ^ (k+1)=2 ^ k*2:=Int.pow_succ 2 k
theorem pow_pos_i (k:Nat):(0:Int)<2 ^ k:=Int.pow_pos (by decide)
theorem half_step (a:Int) (k:Nat):a / 2 ^ k=2*(a / 2 ^ (k+1))+a / 2 ^ k % 2:=by
 rw [pow_succ_i,← Int.ediv_ediv_of_nonneg (Int.le_of_lt (pow_pos_i k))]
 omega
theorem bit_of (y:Int) (s:Nat) (hs:s<32):y / 2 ^ s % 2=y % 4294967296 / 2 ^ s % 2:=by
 have hB:(4294967296:Int)=2 ^ s*(2*2 ^ (31 - s)):=by
  have:(2:Int) ^ s*(2*2 ^ (31 - s))=2 ^ (s+(1+(31 - s))):=by rw [Int.pow_add,Int.pow_add];rfl
  rw [this,show s+(1+(31 - s))=32 by omega];rfl
 have hp:=pow_pos_i s
 have e:=Int.mul_ediv_add_emod y 4294967296
 generalize y / 4294967296=q at*
 generalize y % 4294967296=r at*
 have:y / 2 ^ s=r / 2 ^ s+2*(2 ^ (31 - s)*q):=by
  rw [← e,hB]
  rw [show 2 ^ s*(2*2 ^ (31 - s))*q+r=r+2 ^ s*(2*(2 ^ (31 - s)*q)) by grind]
  exact Int.add_mul_ediv_left _ _ (by omega)
 rw [this];omega
theorem dig_room (t:Int) (s:Nat) (hs:s<32) (h0:0≤t) (h1:t<4294967296) (hd:t % 2 ^ (s+1)=0):t+2 ^ s<4294967296∧(t+2 ^ s) % 2 ^ s=0∧t % 2 ^ s=0:=by
 have hp:=pow_pos_i s
 have hB:(4294967296:Int)=2 ^ (s+1)*2 ^ (31 - s):=by
  rw [← Int.pow_add,show s+1+(31 - s)=32 by omega];rfl
 obtain ⟨c,hc⟩:=Int.dvd_of_emod_eq_zero hd
 have hp1:=pow_pos_i (s+1)
 have hlt:c<2 ^ (31 - s):=by
  apply Int.lt_of_not_ge;intro hge
  have:=Int.mul_le_mul_of_nonneg_left hge (Int.le_of_lt hp1)
  omega
 have hle:2 ^ (s+1)*(c+1)≤2 ^ (s+1)*2 ^ (31 - s):=Int.mul_le_mul_of_nonneg_left (by omega) (Int.le_of_lt hp1)
 have e1:(2:Int) ^ (s+1)*(c+1)=t+2 ^ (s+1):=by rw [hc];grind
 have e2:=pow_succ_i s
 have e3:t=2 ^ s*(2*c):=by rw [hc,e2];grind
 refine ⟨by omega, ?_, ?_⟩
 ·rw [e3,show (2:Int) ^ s*(2*c)+2 ^ s=2 ^ s*(2*c+1) by grind];exact Int.mul_emod_right _ _
 ·rw [e3];exact Int.mul_emod_right _ _
end Go.Proofs.YthodedagbbifbaaGreat
namespace Go.Proofs.YthodedagbbifbaaGreat
open Go.RowKit
def g0 (x:Int):Int:=x % 4294967296
def g1 (x:Int):Int:=x / 4294967296 % 4294967296
def g2 (x:Int):Int:=x / 18446744073709551616 % 4294967296
def g3 (x:Int):Int:=x / 79228162514264337593543950336 % 4294967296
theorem g0_bd (x:Int):0≤g0 x∧g0 x≤4294967295:=by unfold g0;omega
theorem g1_bd (x:Int):0≤g1 x∧g1 x≤4294967295:=by unfold g1;omega
theorem g2_bd (x:Int):0≤g2 x∧g2 x≤4294967295:=by unfold g2;omega
theorem g3_bd (x:Int):0≤g3 x∧g3 x≤4294967295:=by unfold g3;omega
theorem g_sum (x:Int) (h0:0≤x) (h1:x<340282366920938463463374607431768211456):x=g0 x+g1 x*4294967296+g2 x*18446744073709551616+g3 x*79228162514264337593543950336:=by
 unfold g0 g1 g2 g3;omega
theorem g_of (a b c d:Int) (h0:0≤a∧a≤4294967295) (h1:0≤b∧b≤4294967295) (h2:0≤c∧c≤4294967295) (h3:0≤d∧d≤4294967295):
  g0 (a+b*4294967296+c*18446744073709551616+d*79228162514264337593543950336)=a∧g1 (a+b*4294967296+c*18446744073709551616+d*79228162514264337593543950336)=b∧g2 (a+b*4294967296+c*18446744073709551616+d*79228162514264337593543950336)=c∧g3 (a+b*4294967296+c*18446744073709551616+d*79228162514264337593543950336)=d:=by
 unfold g0 g1 g2 g3;omega
theorem ret_big {a b c d a' b' c' d':Int} (h0:a=a') (h1:b=b') (h2:c=c') (h3:d=d'):Ending.returned (.agg #[.int .u64 a,.int .u64 b,.int .u64 c,.int .u64 d])=Ending.returned (.agg #[.int .u64 a',.int .u64 b',.int .u64 c',.int .u64 d']):=by rw [h0,h1,h2,h3]
theorem rsize_any (n:Int) (w:World) (h1: -9223372036854775808≤n) (h2:n≤9223372036854775807):
  Calls Tryz.prog 160 #[.int .i64 n] w fun e w'=>e=.returned (.int .u64 (sz n))∧w'=w:=by
 by_cases h:n<0
 ·go_enter Tryz.func160,Tryz.ntmps160
  go_wp2
  go_ret
  exact ⟨ret_int (by rw [sz_of_neg h];go_arith),rfl⟩
 ·have h':0≤n:=by omega
  go_enter Tryz.func160,Tryz.ntmps160
  go_wp2
  go_ret
  exact ⟨ret_int (by rw [sz_of_nonneg h']),rfl⟩
theorem rof_any (n:Int) (w:World) (h1:0≤n) (h2:n≤18446744073709551615):
  Calls Tryz.prog 159 #[.int .u64 n] w fun e w'=>e=.returned (.agg #[.int .u64 (g0 n),.int .u64 (g1 n),.int .u64 (g2 n),.int .u64 (g3 n)])∧Below w.heap.size w w':=by
 go_enter Tryz.func159,Tryz.ntmps159
 go_wp2
 go_returns
 exact ⟨ret_big (by unfold g0;rfl) (by unfold g1;omega) (by unfold g2;omega) (by unfold g3;omega),by go_grown⟩
theorem rplus_raw (a0 a1 a2 a3 b0 b1 b2 b3:Int) (w:World) (p0:0≤a0) (p1:0≤a1) (p2:0≤a2) (p3:0≤a3) (q0:0≤b0) (q1:0≤b1) (q2:0≤b2) (q3:0≤b3)
  (r0:a0≤4294967295) (r1:a1≤4294967295) (r2:a2≤4294967295) (r3:a3≤4294967295) (s0:b0≤4294967295) (s1:b1≤4294967295) (s2:b2≤4294967295) (s3:b3≤4294967295):
  Calls Tryz.prog 177 #[.agg #[.int .u64 a0,.int .u64 a1,.int .u64 a2,.int .u64 a3],.agg #[.int .u64 b0,.int .u64 b1,.int .u64 b2,.int .u64 b3]] w fun e w'=>e=.returned (.agg #[.int .u64 ((a0+b0) % 4294967296),.int .u64 ((a1+b1+(a0+b0) / 4294967296) % 4294967296),.int .u64 ((a2+b2+(a1+b1+(a0+b0) / 4294967296) / 4294967296) % 4294967296),.int .u64 ((a3+b3+(a2+b2+(a1+b1+(a0+b0) / 4294967296) / 4294967296) / 4294967296) % 4294967296)])∧Below w.heap.size w w':=by
 go_enter Tryz.func177,Tryz.ntmps177
 go_wp2
 refine wp_loop_rounds 5 ?_
 rw [rounds_succ]
 go_wp2
 go_quiet (fail)
 go_wp2
 rw [rounds_succ]
 go_wp2
 go_quiet (fail)
 go_wp2
 rw [rounds_succ]
 go_wp2
 go_quiet (fail)
 go_wp2
 rw [rounds_succ]
 go_wp2
 go_quiet (fail)
 go_wp2
 rw [rounds_succ]
 go_wp2
 go_returns
 exact ⟨rfl,by repeat' (first | (with_reducible exact Below.refl _ _) | (with_reducible assumption) | (with_reducible refine bdrewN _ ?_) | (with_reducible refine Below.alloc ?_ ?_ _) | (with_reducible refine Below.setCell ?_ ?_ _) | (with_reducible refine Below.drew ?_) | go_size)⟩
theorem rplus_any (x y:Int) (w:World) (hx:0≤x) (hy:0≤y) (h:x+y<340282366920938463463374607431768211456):
  Calls Tryz.prog 177 #[.agg #[.int .u64 (g0 x),.int .u64 (g1 x),.int .u64 (g2 x),.int .u64 (g3 x)],.agg #[.int .u64 (g0 y),.int .u64 (g1 y),.int .u64 (g2 y),.int .u64 (g3 y)]] w fun e w'=>e=.returned (.agg #[.int .u64 (g0 (x+y)),.int .u64 (g1 (x+y)),.int .u64 (g2 (x+y)),.int .u64 (g3 (x+y))])∧Below w.heap.size w w':=by
 have a0:=g0_bd x;have a1:=g1_bd x;have a2:=g2_bd x;have a3:=g3_bd x
 have b0:=g0_bd y;have b1:=g1_bd y;have b2:=g2_bd y;have b3:=g3_bd y
 have ex:=g_sum x hx (by omega);have ey:=g_sum y hy (by omega)
 refine (rplus_raw _ _ _ _ _ _ _ _ w a0.1 a1.1 a2.1 a3.1 b0.1 b1.1 b2.1 b3.1 a0.2 a1.2 a2.2 a3.2 b0.2 b1.2 b2.2 b3.2).mono ?_
 rintro e w' ⟨rfl,hb⟩
 have e:x+y=((g0 x+g0 y) % 4294967296)+((g1 x+g1 y+(g0 x+g0 y) / 4294967296) % 4294967296)*4294967296+((g2 x+g2 y+(g1 x+g1 y+(g0 x+g0 y) / 4294967296) / 4294967296) % 4294967296)*18446744073709551616+((g3 x+g3 y+(g2 x+g2 y+(g1 x+g1 y+(g0 x+g0 y) / 4294967296) / 4294967296) / 4294967296) % 4294967296)*79228162514264337593543950336:=by
  generalize g0 x=X0 at*;generalize g1 x=X1 at*;generalize g2 x=X2 at*;generalize g3 x=X3 at*
  generalize g0 y=Y0 at*;generalize g1 y=Y1 at*;generalize g2 y=Y2 at*;generalize g3 y=Y3 at*
  clear hb
  omega
 obtain ⟨k0,k1,k2,k3⟩:=g_of ((g0 x+g0 y) % 4294967296) ((g1 x+g1 y+(g0 x+g0 y) / 4294967296) % 4294967296) ((g2 x+g2 y+(g1 x+g1 y+(g0 x+g0 y) / 4294967296) / 4294967296) % 4294967296) ((g3 x+g3 y+(g2 x+g2 y+(g1 x+g1 y+(g0 x+g0 y) / 4294967296) / 4294967296) / 4294967296) % 4294967296) (by omega) (by omega) (by omega) (by omega)
 rw [← e] at k0 k1 k2 k3
 exact ⟨ret_big k0.symm k1.symm k2.symm k3.symm,hb⟩
theorem rless_raw (a0 a1 a2 a3 b0 b1 b2 b3:Int) (w:World) (p0:0≤a0) (p1:0≤a1) (p2:0≤a2) (p3:0≤a3) (q0:0≤b0) (q1:0≤b1) (q2:0≤b2) (q3:0≤b3)
  (r0:a0≤4294967295) (r1:a1≤4294967295) (r2:a2≤4294967295) (r3:a3≤4294967295) (s0:b0≤4294967295) (s1:b1≤4294967295) (s2:b2≤4294967295) (s3:b3≤4294967295):
  Calls Tryz.prog 178 #[.agg #[.int .u64 a0,.int .u64 a1,.int .u64 a2,.int .u64 a3],.agg #[.int .u64 b0,.int .u64 b1,.int .u64 b2,.int .u64 b3]] w fun e w'=>e=.returned (.agg #[.int .u64 ((a0+4294967296 - b0) % 4294967296),.int .u64 ((a1+4294967296 - b1 - (1 - (a0+4294967296 - b0) / 4294967296)) % 4294967296),.int .u64 ((a2+4294967296 - b2 - (1 - (a1+4294967296 - b1 - (1 - (a0+4294967296 - b0) / 4294967296)) / 4294967296)) % 4294967296),.int .u64 ((a3+4294967296 - b3 - (1 - (a2+4294967296 - b2 - (1 - (a1+4294967296 - b1 - (1 - (a0+4294967296 - b0) / 4294967296)) / 4294967296)) / 4294967296)) % 4294967296)])∧Below w.heap.size w w':=by
 go_enter Tryz.func178,Tryz.ntmps178
 go_wp2
 refine wp_loop_rounds 5 ?_
 rw [rounds_succ]
 go_wp2
 go_quiet (fail)
 go_wp2
 rw [rounds_succ]
 go_wp2
 go_quiet (fail)
 go_wp2
 rw [rounds_succ]
 go_wp2
 go_quiet (fail)
 go_wp2
 rw [rounds_succ]
 go_wp2
 go_quiet (fail)
 go_wp2
 rw [rounds_succ]
 go_wp2
 go_returns
 exact ⟨rfl,by repeat' (first | (with_reducible exact Below.refl _ _) | (with_reducible assumption) | (with_reducible refine bdrewN _ ?_) | (with_reducible refine Below.alloc ?_ ?_ _) | (with_reducible refine Below.setCell ?_ ?_ _) | (with_reducible refine Below.drew ?_) | go_size)⟩
theorem rless_any (x y:Int) (w:World) (hy:0≤y) (h:y≤x) (hx:x<340282366920938463463374607431768211456):
  Calls Tryz.prog 178 #[.agg #[.int .u64 (g0 x),.int .u64 (g1 x),.int .u64 (g2 x),.int .u64 (g3 x)],.agg #[.int .u64 (g0 y),.int .u64 (g1 y),.int .u64 (g2 y),.int .u64 (g3 y)]] w fun e w'=>e=.returned (.agg #[.int .u64 (g0 (x - y)),.int .u64 (g1 (x - y)),.int .u64 (g2 (x - y)),.int .u64 (g3 (x - y))])∧Below w.heap.size w w':=by
 have a0:=g0_bd x;have a1:=g1_bd x;have a2:=g2_bd x;have a3:=g3_bd x
 have b0:=g0_bd y;have b1:=g1_bd y;have b2:=g2_bd y;have b3:=g3_bd y
 have ex:=g_sum x (by omega) hx;have ey:=g_sum y hy (by omega)
 refine (rless_raw _ _ _ _ _ _ _ _ w a0.1 a1.1 a2.1 a3.1 b0.1 b1.1 b2.1 b3.1 a0.2 a1.2 a2.2 a3.2 b0.2 b1.2 b2.2 b3.2).mono ?_
 rintro e w' ⟨rfl,hb⟩
 have e:x - y=((g0 x+4294967296 - g0 y) % 4294967296)+((g1 x+4294967296 - g1 y - (1 - (g0 x+4294967296 - g0 y) / 4294967296)) % 4294967296)*4294967296+((g2 x+4294967296 - g2 y - (1 - (g1 x+4294967296 - g1 y - (1 - (g0 x+4294967296 - g0 y) / 4294967296)) / 4294967296)) % 4294967296)*18446744073709551616+((g3 x+4294967296 - g3 y - (1 - (g2 x+4294967296 - g2 y - (1 - (g1 x+4294967296 - g1 y - (1 - (g0 x+4294967296 - g0 y) / 4294967296)) / 4294967296)) / 4294967296)) % 4294967296)*79228162514264337593543950336:=by
  generalize g0 x=X0 at*;generalize g1 x=X1 at*;generalize g2 x=X2 at*;generalize g3 x=X3 at*
  generalize g0 y=Y0 at*;generalize g1 y=Y1 at*;generalize g2 y=Y2 at*;generalize g3 y=Y3 at*
  clear hb
  omega
 obtain ⟨k0,k1,k2,k3⟩:=g_of ((g0 x+4294967296 - g0 y) % 4294967296) ((g1 x+4294967296 - g1 y - (1 - (g0 x+4294967296 - g0 y) / 4294967296)) % 4294967296) ((g2 x+4294967296 - g2 y - (1 - (g1 x+4294967296 - g1 y - (1 - (g0 x+4294967296 - g0 y) / 4294967296)) / 4294967296)) % 4294967296) ((g3 x+4294967296 - g3 y - (1 - (g2 x+4294967296 - g2 y - (1 - (g1 x+4294967296 - g1 y - (1 - (g0 x+4294967296 - g0 y) / 4294967296)) / 4294967296)) / 4294967296)) % 4294967296) (by omega) (by omega) (by omega) (by omega)
 rw [← e] at k0 k1 k2 k3
 exact ⟨ret_big k0.symm k1.symm k2.symm k3.symm,hb⟩
def cmpI (x y:Int):Int:=if x<y then -1 else if y<x then 1 else 0
theorem rcompare_raw (a0 a1 a2 a3 b0 b1 b2 b3:Int) (w:World) (p0:0≤a0) (p1:0≤a1) (p2:0≤a2) (_p3:0≤a3) (q0:0≤b0) (q1:0≤b1) (q2:0≤b2) (_q3:0≤b3)
  (r0:a0≤4294967295) (r1:a1≤4294967295) (r2:a2≤4294967295) (_r3:a3≤4294967295) (s0:b0≤4294967295) (s1:b1≤4294967295) (s2:b2≤4294967295) (_s3:b3≤4294967295):
  Calls Tryz.prog 172 #[.agg #[.int .u64 a0,.int .u64 a1,.int .u64 a2,.int .u64 a3],.agg #[.int .u64 b0,.int .u64 b1,.int .u64 b2,.int .u64 b3]] w fun e w'=>e=.returned (.int .i64 (cmpI (a0+a1*4294967296+a2*18446744073709551616+a3*79228162514264337593543950336) (b0+b1*4294967296+b2*18446744073709551616+b3*79228162514264337593543950336)))∧Below w.heap.size w w':=by
 go_enter Tryz.func172,Tryz.ntmps172
 go_wp2
 refine wp_loop_rounds 5 ?_
 rw [rounds_succ]
 go_wp2
 go_quiet (fail)
 by_cases u3:a3<b3
 ·go_wp2
  go_ret
  exact ⟨ret_int (by unfold cmpI;rw [if_pos (by omega)]),by repeat' (first | (with_reducible exact Below.refl _ _) | (with_reducible assumption) | (with_reducible refine bdrewN _ ?_) | (with_reducible refine Below.alloc ?_ ?_ _) | (with_reducible refine Below.setCell ?_ ?_ _) | (with_reducible refine Below.drew ?_) | go_size)⟩
 go_wp2
 go_quiet (fail)
 by_cases v3:b3<a3
 ·go_wp2
  go_ret
  exact ⟨ret_int (by unfold cmpI;rw [if_neg (by omega),if_pos (by omega)]),by repeat' (first | (with_reducible exact Below.refl _ _) | (with_reducible assumption) | (with_reducible refine bdrewN _ ?_) | (with_reducible refine Below.alloc ?_ ?_ _) | (with_reducible refine Below.setCell ?_ ?_ _) | (with_reducible refine Below.drew ?_) | go_size)⟩
 go_wp2
 rw [rounds_succ]
 go_wp2
 go_quiet (fail)
 by_cases u2:a2<b2
 ·go_wp2
  go_ret
  exact ⟨ret_int (by unfold cmpI;rw [if_pos (by omega)]),by repeat' (first | (with_reducible exact Below.refl _ _) | (with_reducible assumption) | (with_reducible refine bdrewN _ ?_) | (with_reducible refine Below.alloc ?_ ?_ _) | (with_reducible refine Below.setCell ?_ ?_ _) | (with_reducible refine Below.drew ?_) | go_size)⟩
 go_wp2
 go_quiet (fail)
 by_cases v2:b2<a2
 ·go_wp2
  go_ret
  exact ⟨ret_int (by unfold cmpI;rw [if_neg (by omega),if_pos (by omega)]),by repeat' (first | (with_reducible exact Below.refl _ _) | (with_reducible assumption) | (with_reducible refine bdrewN _ ?_) | (with_reducible refine Below.alloc ?_ ?_ _) | (with_reducible refine Below.setCell ?_ ?_ _) | (with_reducible refine Below.drew ?_) | go_size)⟩
 go_wp2
 rw [rounds_succ]
 go_wp2
 go_quiet (fail)
 by_cases u1:a1<b1
 ·go_wp2
  go_ret
  exact ⟨ret_int (by unfold cmpI;rw [if_pos (by omega)]),by repeat' (first | (with_reducible exact Below.refl _ _) | (with_reducible assumption) | (with_reducible refine bdrewN _ ?_) | (with_reducible refine Below.alloc ?_ ?_ _) | (with_reducible refine Below.setCell ?_ ?_ _) | (with_reducible refine Below.drew ?_) | go_size)⟩
 go_wp2
 go_quiet (fail)
 by_cases v1:b1<a1
 ·go_wp2
  go_ret
  exact ⟨ret_int (by unfold cmpI;rw [if_neg (by omega),if_pos (by omega)]),by repeat' (first | (with_reducible exact Below.refl _ _) | (with_reducible assumption) | (with_reducible refine bdrewN _ ?_) | (with_reducible refine Below.alloc ?_ ?_ _) | (with_reducible refine Below.setCell ?_ ?_ _) | (with_reducible refine Below.drew ?_) | go_size)⟩
 go_wp2
 rw [rounds_succ]
 go_wp2
 go_quiet (fail)
 by_cases u0:a0<b0
 ·go_wp2
  go_ret
  exact ⟨ret_int (by unfold cmpI;rw [if_pos (by omega)]),by repeat' (first | (with_reducible exact Below.refl _ _) | (with_reducible assumption) | (with_reducible refine bdrewN _ ?_) | (with_reducible refine Below.alloc ?_ ?_ _) | (with_reducible refine Below.setCell ?_ ?_ _) | (with_reducible refine Below.drew ?_) | go_size)⟩
 go_wp2
 go_quiet (fail)
 by_cases v0:b0<a0
 ·go_wp2
  go_ret
  exact ⟨ret_int (by unfold cmpI;rw [if_neg (by omega),if_pos (by omega)]),by repeat' (first | (with_reducible exact Below.refl _ _) | (with_reducible assumption) | (with_reducible refine bdrewN _ ?_) | (with_reducible refine Below.alloc ?_ ?_ _) | (with_reducible refine Below.setCell ?_ ?_ _) | (with_reducible refine Below.drew ?_) | go_size)⟩
 go_wp2
 rw [rounds_succ]
 go_wp2
 go_ret
 exact ⟨ret_int (by unfold cmpI;rw [if_neg (by omega),if_neg (by omega)]),by repeat' (first | (with_reducible exact Below.refl _ _) | (with_reducible assumption) | (with_reducible refine bdrewN _ ?_) | (with_reducible refine Below.alloc ?_ ?_ _) | (with_reducible refine Below.setCell ?_ ?_ _) | (with_reducible refine Below.drew ?_) | go_size)⟩
theorem rcompare_any (x y:Int) (w:World) (hx:0≤x) (hx':x<340282366920938463463374607431768211456) (hy:0≤y) (hy':y<340282366920938463463374607431768211456):
  Calls Tryz.prog 172 #[.agg #[.int .u64 (g0 x),.int .u64 (g1 x),.int .u64 (g2 x),.int .u64 (g3 x)],.agg #[.int .u64 (g0 y),.int .u64 (g1 y),.int .u64 (g2 y),.int .u64 (g3 y)]] w fun e w'=>e=.returned (.int .i64 (cmpI x y))∧Below w.heap.size w w':=by
 have a0:=g0_bd x;have a1:=g1_bd x;have a2:=g2_bd x;have a3:=g3_bd x
 have b0:=g0_bd y;have b1:=g1_bd y;have b2:=g2_bd y;have b3:=g3_bd y
 have h:=rcompare_raw _ _ _ _ _ _ _ _ w a0.1 a1.1 a2.1 a3.1 b0.1 b1.1 b2.1 b3.1 a0.2 a1.2 a2.2 a3.2 b0.2 b1.2 b2.2 b3.2
 rwa [← g_sum x hx hx',← g_sum y hy hy'] at h
theorem wp_world {P:Program} {c:Code} {Q:Exit→Act→World→Prop} {a:Act} {w:World} (h:∀ W,W=w→c.wp P Q a W):c.wp P Q a w:=h w rfl
structure Inv (a b:Int) (k:Nat) (t0 t1 t2 t3 R:Int):Prop where
 rest:R=a / 2 ^ k % b
 times:t0+t1*4294967296+t2*18446744073709551616+t3*79228162514264337593543950336=a / 2 ^ k / b*2 ^ k
 d0:t0 % 2 ^ min k 32=0
 d1:t1 % 2 ^ min (k - 32) 32=0
 d2:t2 % 2 ^ min (k - 64) 32=0
 d3:t3 % 2 ^ min (k - 96) 32=0
theorem inv_step0 (a b t0 t1 t2 t3 R:Int) (s:Nat) (hs:s<32) (hb:0<b) (h0:0≤t0) (h1:t0<4294967296) (h:Inv a b (0+s+1) t0 t1 t2 t3 R):
  (b≤2*R+g0 a / 2 ^ s % 2→t0+2 ^ s<4294967296∧Inv a b (0+s) (t0+2 ^ s) t1 t2 t3 (2*R+g0 a / 2 ^ s % 2 - b))∧(2*R+g0 a / 2 ^ s % 2<b→Inv a b (0+s) t0 t1 t2 t3 (2*R+g0 a / 2 ^ s % 2)):=by
 obtain ⟨hr,ht,q0,q1,q2,q3⟩:=h
 have hbit:a / 2 ^ (0+s) % 2=g0 a / 2 ^ s % 2:=by
  unfold g0
  rw [show 0+s=s by omega];exact bit_of a s hs
 have hx:=half_step a (0+s)
 rw [hbit] at hx
 have hb0:0≤g0 a / 2 ^ s % 2:=by omega
 have hb1:g0 a / 2 ^ s % 2≤1:=by omega
 have hp:(2:Int) ^ (0+s+1)=2 ^ (0+s)*2:=pow_succ_i _
 have hp2:(2:Int) ^ (0+s)=1*2 ^ s:=by rw [Int.pow_add];rfl
 have qe:min (0+s+1) 32=s+1:=by omega
 have qj:=q0
 rw [qe] at qj
 obtain ⟨r1,r2,r3⟩:=dig_room t0 s hs h0 h1 qj
 obtain ⟨s1,s2⟩:=bit_step hb hx hb0 hb1
 rw [← hr] at s1 s2
 generalize g0 a / 2 ^ s % 2=bit at*
 constructor
 ·intro hc
  obtain ⟨u1,u2⟩:=s1 hc
  refine ⟨r1,⟨u1.symm, ?_,(by rw [show min ((0+s)) 32=s by omega];exact r2),(by rw [show min ((0+s) - 32) 32=0 by omega];simp),(by rw [show min ((0+s) - 64) 32=0 by omega];simp),(by rw [show min ((0+s) - 96) 32=0 by omega];simp)⟩⟩
  rw [u2]
  have:(2*(a / 2 ^ (0+s+1) / b)+1)*2 ^ (0+s)=a / 2 ^ (0+s+1) / b*2 ^ (0+s+1)+2 ^ (0+s):=by rw [hp];grind
  rw [this,← ht,hp2]
  generalize (2:Int) ^ s=p at*
  grind
 ·intro hc
  obtain ⟨u1,u2⟩:=s2 hc
  refine ⟨u1.symm, ?_,(by rw [show min ((0+s)) 32=s by omega];exact r3),(by rw [show min ((0+s) - 32) 32=0 by omega];simp),(by rw [show min ((0+s) - 64) 32=0 by omega];simp),(by rw [show min ((0+s) - 96) 32=0 by omega];simp)⟩
  rw [u2]
  have:2*(a / 2 ^ (0+s+1) / b)*2 ^ (0+s)=a / 2 ^ (0+s+1) / b*2 ^ (0+s+1):=by rw [hp];grind
  rw [this,ht]
theorem inv_step1 (a b t0 t1 t2 t3 R:Int) (s:Nat) (hs:s<32) (hb:0<b) (h0:0≤t1) (h1:t1<4294967296) (h:Inv a b (32+s+1) t0 t1 t2 t3 R):
  (b≤2*R+g1 a / 2 ^ s % 2→t1+2 ^ s<4294967296∧Inv a b (32+s) t0 (t1+2 ^ s) t2 t3 (2*R+g1 a / 2 ^ s % 2 - b))∧(2*R+g1 a / 2 ^ s % 2<b→Inv a b (32+s) t0 t1 t2 t3 (2*R+g1 a / 2 ^ s % 2)):=by
 obtain ⟨hr,ht,q0,q1,q2,q3⟩:=h
 have hbit:a / 2 ^ (32+s) % 2=g1 a / 2 ^ s % 2:=by
  unfold g1
  have e:a / 2 ^ (32+s)=a / 4294967296 / 2 ^ s:=by
   rw [Int.pow_add,← Int.ediv_ediv_of_nonneg (by decide)];rfl
  rw [e];exact bit_of _ s hs
 have hx:=half_step a (32+s)
 rw [hbit] at hx
 have hb0:0≤g1 a / 2 ^ s % 2:=by omega
 have hb1:g1 a / 2 ^ s % 2≤1:=by omega
 have hp:(2:Int) ^ (32+s+1)=2 ^ (32+s)*2:=pow_succ_i _
 have hp2:(2:Int) ^ (32+s)=4294967296*2 ^ s:=by rw [Int.pow_add];rfl
 have qe:min ((32+s+1) - 32) 32=s+1:=by omega
 have qj:=q1
 rw [qe] at qj
 obtain ⟨r1,r2,r3⟩:=dig_room t1 s hs h0 h1 qj
 obtain ⟨s1,s2⟩:=bit_step hb hx hb0 hb1
 rw [← hr] at s1 s2
 generalize g1 a / 2 ^ s % 2=bit at*
 constructor
 ·intro hc
  obtain ⟨u1,u2⟩:=s1 hc
  refine ⟨r1,⟨u1.symm, ?_,(by rw [show min ((32+s)) 32=min ((32+s+1)) 32 by omega];exact q0),(by rw [show min ((32+s) - 32) 32=s by omega];exact r2),(by rw [show min ((32+s) - 64) 32=0 by omega];simp),(by rw [show min ((32+s) - 96) 32=0 by omega];simp)⟩⟩
  rw [u2]
  have:(2*(a / 2 ^ (32+s+1) / b)+1)*2 ^ (32+s)=a / 2 ^ (32+s+1) / b*2 ^ (32+s+1)+2 ^ (32+s):=by rw [hp];grind
  rw [this,← ht,hp2]
  generalize (2:Int) ^ s=p at*
  grind
 ·intro hc
  obtain ⟨u1,u2⟩:=s2 hc
  refine ⟨u1.symm, ?_,(by rw [show min ((32+s)) 32=min ((32+s+1)) 32 by omega];exact q0),(by rw [show min ((32+s) - 32) 32=s by omega];exact r3),(by rw [show min ((32+s) - 64) 32=0 by omega];simp),(by rw [show min ((32+s) - 96) 32=0 by omega];simp)⟩
  rw [u2]
  have:2*(a / 2 ^ (32+s+1) / b)*2 ^ (32+s)=a / 2 ^ (32+s+1) / b*2 ^ (32+s+1):=by rw [hp];grind
  rw [this,ht]
theorem inv_step2 (a b t0 t1 t2 t3 R:Int) (s:Nat) (hs:s<32) (hb:0<b) (h0:0≤t2) (h1:t2<4294967296) (h:Inv a b (64+s+1) t0 t1 t2 t3 R):
  (b≤2*R+g2 a / 2 ^ s % 2→t2+2 ^ s<4294967296∧Inv a b (64+s) t0 t1 (t2+2 ^ s) t3 (2*R+g2 a / 2 ^ s % 2 - b))∧(2*R+g2 a / 2 ^ s % 2<b→Inv a b (64+s) t0 t1 t2 t3 (2*R+g2 a / 2 ^ s % 2)):=by
 obtain ⟨hr,ht,q0,q1,q2,q3⟩:=h
 have hbit:a / 2 ^ (64+s) % 2=g2 a / 2 ^ s % 2:=by
  unfold g2
  have e:a / 2 ^ (64+s)=a / 18446744073709551616 / 2 ^ s:=by
   rw [Int.pow_add,← Int.ediv_ediv_of_nonneg (by decide)];rfl
  rw [e];exact bit_of _ s hs
 have hx:=half_step a (64+s)
 rw [hbit] at hx
 have hb0:0≤g2 a / 2 ^ s % 2:=by omega
 have hb1:g2 a / 2 ^ s % 2≤1:=by omega
 have hp:(2:Int) ^ (64+s+1)=2 ^ (64+s)*2:=pow_succ_i _
 have hp2:(2:Int) ^ (64+s)=18446744073709551616*2 ^ s:=by rw [Int.pow_add];rfl
 have qe:min ((64+s+1) - 64) 32=s+1:=by omega
 have qj:=q2
 rw [qe] at qj
 obtain ⟨r1,r2,r3⟩:=dig_room t2 s hs h0 h1 qj
 obtain ⟨s1,s2⟩:=bit_step hb hx hb0 hb1
 rw [← hr] at s1 s2
 generalize g2 a / 2 ^ s % 2=bit at*
 constructor
 ·intro hc
  obtain ⟨u1,u2⟩:=s1 hc
  refine ⟨r1,⟨u1.symm, ?_,(by rw [show min ((64+s)) 32=min ((64+s+1)) 32 by omega];exact q0),(by rw [show min ((64+s) - 32) 32=min ((64+s+1) - 32) 32 by omega];exact q1),(by rw [show min ((64+s) - 64) 32=s by omega];exact r2),(by rw [show min ((64+s) - 96) 32=0 by omega];simp)⟩⟩
  rw [u2]
  have:(2*(a / 2 ^ (64+s+1) / b)+1)*2 ^ (64+s)=a / 2 ^ (64+s+1) / b*2 ^ (64+s+1)+2 ^ (64+s):=by rw [hp];grind
  rw [this,← ht,hp2]
  generalize (2:Int) ^ s=p at*
  grind
 ·intro hc
  obtain ⟨u1,u2⟩:=s2 hc
  refine ⟨u1.symm, ?_,(by rw [show min ((64+s)) 32=min ((64+s+1)) 32 by omega];exact q0),(by rw [show min ((64+s) - 32) 32=min ((64+s+1) - 32) 32 by omega];exact q1),(by rw [show min ((64+s) - 64) 32=s by omega];exact r3),(by rw [show min ((64+s) - 96) 32=0 by omega];simp)⟩
  rw [u2]
  have:2*(a / 2 ^ (64+s+1) / b)*2 ^ (64+s)=a / 2 ^ (64+s+1) / b*2 ^ (64+s+1):=by rw [hp];grind
  rw [this,ht]
theorem inv_step3 (a b t0 t1 t2 t3 R:Int) (s:Nat) (hs:s<32) (hb:0<b) (h0:0≤t3) (h1:t3<4294967296) (h:Inv a b (96+s+1) t0 t1 t2 t3 R):
  (b≤2*R+g3 a / 2 ^ s % 2→t3+2 ^ s<4294967296∧Inv a b (96+s) t0 t1 t2 (t3+2 ^ s) (2*R+g3 a / 2 ^ s % 2 - b))∧(2*R+g3 a / 2 ^ s % 2<b→Inv a b (96+s) t0 t1 t2 t3 (2*R+g3 a / 2 ^ s % 2)):=by
 obtain ⟨hr,ht,q0,q1,q2,q3⟩:=h
 have hbit:a / 2 ^ (96+s) % 2=g3 a / 2 ^ s % 2:=by
  unfold g3
  have e:a / 2 ^ (96+s)=a / 79228162514264337593543950336 / 2 ^ s:=by
   rw [Int.pow_add,← Int.ediv_ediv_of_nonneg (by decide)];rfl
  rw [e];exact bit_of _ s hs
 have hx:=half_step a (96+s)
 rw [hbit] at hx
 have hb0:0≤g3 a / 2 ^ s % 2:=by omega
 have hb1:g3 a / 2 ^ s % 2≤1:=by omega
 have hp:(2:Int) ^ (96+s+1)=2 ^ (96+s)*2:=pow_succ_i _
 have hp2:(2:Int) ^ (96+s)=79228162514264337593543950336*2 ^ s:=by rw [Int.pow_add];rfl
 have qe:min ((96+s+1) - 96) 32=s+1:=by omega
 have qj:=q3
 rw [qe] at qj
 obtain ⟨r1,r2,r3⟩:=dig_room t3 s hs h0 h1 qj
 obtain ⟨s1,s2⟩:=bit_step hb hx hb0 hb1
 rw [← hr] at s1 s2
 generalize g3 a / 2 ^ s % 2=bit at*
 constructor
 ·intro hc
  obtain ⟨u1,u2⟩:=s1 hc
  refine ⟨r1,⟨u1.symm, ?_,(by rw [show min ((96+s)) 32=min ((96+s+1)) 32 by omega];exact q0),(by rw [show min ((96+s) - 32) 32=min ((96+s+1) - 32) 32 by omega];exact q1),(by rw [show min ((96+s) - 64) 32=min ((96+s+1) - 64) 32 by omega];exact q2),(by rw [show min ((96+s) - 96) 32=s by omega];exact r2)⟩⟩
  rw [u2]
  have:(2*(a / 2 ^ (96+s+1) / b)+1)*2 ^ (96+s)=a / 2 ^ (96+s+1) / b*2 ^ (96+s+1)+2 ^ (96+s):=by rw [hp];grind
  rw [this,← ht,hp2]
  generalize (2:Int) ^ s=p at*
  grind
 ·intro hc
  obtain ⟨u1,u2⟩:=s2 hc
  refine ⟨u1.symm, ?_,(by rw [show min ((96+s)) 32=min ((96+s+1)) 32 by omega];exact q0),(by rw [show min ((96+s) - 32) 32=min ((96+s+1) - 32) 32 by omega];exact q1),(by rw [show min ((96+s) - 64) 32=min ((96+s+1) - 64) 32 by omega];exact q2),(by rw [show min ((96+s) - 96) 32=s by omega];exact r3)⟩
  rw [u2]
  have:2*(a / 2 ^ (96+s+1) / b)*2 ^ (96+s)=a / 2 ^ (96+s+1) / b*2 ^ (96+s+1):=by rw [hp];grind
  rw [this,ht]
structure Blk (W:World) (B:Nat) (v0 v1 v2 v3:Int):Prop where
 c0:W.cell? ⟨B,0,none⟩=some (.int .u64 v0)
 c1:W.cell? ⟨B,1,none⟩=some (.int .u64 v1)
 c2:W.cell? ⟨B,2,none⟩=some (.int .u64 v2)
 c3:W.cell? ⟨B,3,none⟩=some (.int .u64 v3)
 f0:W.frozen? ⟨B,0,none⟩=false
 f1:W.frozen? ⟨B,1,none⟩=false
 f2:W.frozen? ⟨B,2,none⟩=false
 f3:W.frozen? ⟨B,3,none⟩=false
theorem Blk.below {W W':World} {B n:Nat} {v0 v1 v2 v3:Int} (h:Blk W B v0 v1 v2 v3) (hb:Below n W W') (hB:B<n):Blk W' B v0 v1 v2 v3:=
 ⟨(hb.cell (p:=⟨B,0,none⟩) hB).trans h.c0,(hb.cell (p:=⟨B,1,none⟩) hB).trans h.c1,(hb.cell (p:=⟨B,2,none⟩) hB).trans h.c2,(hb.cell (p:=⟨B,3,none⟩) hB).trans h.c3,
  (hb.frozen (p:=⟨B,0,none⟩) hB).trans h.f0,(hb.frozen (p:=⟨B,1,none⟩) hB).trans h.f1,(hb.frozen (p:=⟨B,2,none⟩) hB).trans h.f2,(hb.frozen (p:=⟨B,3,none⟩) hB).trans h.f3⟩
theorem Blk.set0 {W:World} {B:Nat} {v0 v1 v2 v3:Int} (h:Blk W B v0 v1 v2 v3) (x:Int):Blk (W.setCell ⟨B,0,none⟩ (.int .u64 x)) B x v1 v2 v3:=by
 obtain ⟨c0,c1,c2,c3,f0,f1,f2,f3⟩:=h
 constructor<;>simp (maxDischargeDepth:=12) [go_sem,c0,c1,c2,c3,f0,f1,f2,f3]
theorem Blk.set1 {W:World} {B:Nat} {v0 v1 v2 v3:Int} (h:Blk W B v0 v1 v2 v3) (x:Int):Blk (W.setCell ⟨B,1,none⟩ (.int .u64 x)) B v0 x v2 v3:=by
 obtain ⟨c0,c1,c2,c3,f0,f1,f2,f3⟩:=h
 constructor<;>simp (maxDischargeDepth:=12) [go_sem,c0,c1,c2,c3,f0,f1,f2,f3]
theorem Blk.set2 {W:World} {B:Nat} {v0 v1 v2 v3:Int} (h:Blk W B v0 v1 v2 v3) (x:Int):Blk (W.setCell ⟨B,2,none⟩ (.int .u64 x)) B v0 v1 x v3:=by
 obtain ⟨c0,c1,c2,c3,f0,f1,f2,f3⟩:=h
 constructor<;>simp (maxDischargeDepth:=12) [go_sem,c0,c1,c2,c3,f0,f1,f2,f3]
theorem Blk.set3 {W:World} {B:Nat} {v0 v1 v2 v3:Int} (h:Blk W B v0 v1 v2 v3) (x:Int):Blk (W.setCell ⟨B,3,none⟩ (.int .u64 x)) B v0 v1 v2 x:=by
 obtain ⟨c0,c1,c2,c3,f0,f1,f2,f3⟩:=h
 constructor<;>simp (maxDischargeDepth:=12) [go_sem,c0,c1,c2,c3,f0,f1,f2,f3]
theorem Blk.other {W:World} {B C o:Nat} {v0 v1 v2 v3:Int} {x:Value} (h:Blk W C v0 v1 v2 v3) (hne:C≠B):Blk (W.setCell ⟨B,o,none⟩ x) C v0 v1 v2 v3:=by
 obtain ⟨c0,c1,c2,c3,f0,f1,f2,f3⟩:=h
 constructor<;>simp (maxDischargeDepth:=12) [go_sem,c0,c1,c2,c3,f0,f1,f2,f3]
theorem Blk.four {W:World} {B:Nat} {v0 v1 v2 v3:Int} (h:Blk W B v0 v1 v2 v3) (x0 x1 x2 x3:Int):Blk ((((W.setCell ⟨B,0,none⟩ (.int .u64 x0)).setCell ⟨B,1,none⟩ (.int .u64 x1)).setCell ⟨B,2,none⟩ (.int .u64 x2)).setCell ⟨B,3,none⟩ (.int .u64 x3)) B x0 x1 x2 x3:=
 (((h.set0 x0).set1 x1).set2 x2).set3 x3
theorem Blk.other4 {W:World} {B C:Nat} {v0 v1 v2 v3:Int} {x0 x1 x2 x3:Value} (h:Blk W C v0 v1 v2 v3) (hne:C≠B):Blk ((((W.setCell ⟨B,0,none⟩ x0).setCell ⟨B,1,none⟩ x1).setCell ⟨B,2,none⟩ x2).setCell ⟨B,3,none⟩ x3) C v0 v1 v2 v3:=
 (((h.other hne).other hne).other hne).other hne
theorem Blk.drew {W:World} {B:Nat} {v0 v1 v2 v3:Int} (h:Blk W B v0 v1 v2 v3):Blk W.drew B v0 v1 v2 v3:=
 ⟨h.c0,h.c1,h.c2,h.c3,h.f0,h.f1,h.f2,h.f3⟩
theorem bcl2 {n:Nat} {W0 wx:World} (h:Below n W0 wx) {a:Addr} {v:Value} (hv:W0.cell? a=some v) (ha:a.block<n):wx.cell? a=some v:=(h.cell ha).trans hv
theorem bfr2 {n:Nat} {W0 wx:World} (h:Below n W0 wx) {a:Addr} (hv:W0.frozen? a=false) (ha:a.block<n):wx.frozen? a=false:=(h.frozen ha).trans hv
theorem inv_start (a b:Int) (ha:0≤a) (ha':a<340282366920938463463374607431768211456):Inv a b 128 0 0 0 0 0:=by
 have e:a / 2 ^ 128=0:=Int.ediv_eq_zero_of_lt ha ha'
 refine ⟨by rw [e];simp,by rw [e];simp,by simp,by simp,by simp,by simp⟩
theorem dig_bit (R bit:Int) (hb0:0≤bit) (hb1:bit≤1):g0 (R+R)+bit=g0 (2*R+bit)∧g1 (R+R)=g1 (2*R+bit)∧g2 (R+R)=g2 (2*R+bit)∧g3 (R+R)=g3 (2*R+bit):=by
 unfold g0 g1 g2 g3;omega
theorem ret_two {a0 a1 a2 a3 b0 b1 b2 b3 a0' a1' a2' a3' b0' b1' b2' b3':Int} (h0:a0=a0') (h1:a1=a1') (h2:a2=a2') (h3:a3=a3') (k0:b0=b0') (k1:b1=b1') (k2:b2=b2') (k3:b3=b3'):Ending.returned (.tuple #[.agg #[.int .u64 a0,.int .u64 a1,.int .u64 a2,.int .u64 a3],.agg #[.int .u64 b0,.int .u64 b1,.int .u64 b2,.int .u64 b3]])=Ending.returned (.tuple #[.agg #[.int .u64 a0',.int .u64 a1',.int .u64 a2',.int .u64 a3'],.agg #[.int .u64 b0',.int .u64 b1',.int .u64 b2',.int .u64 b3']]):=by rw [h0,h1,h2,h3,k0,k1,k2,k3]
theorem rdiv_any (a b:Int) (w:World) (ha:0≤a) (ha':a<340282366920938463463374607431768211456) (hb:0<b) (hb':b≤170141183460469231731687303715884105728):
  Calls Tryz.prog 171 #[.agg #[.int .u64 (g0 a),.int .u64 (g1 a),.int .u64 (g2 a),.int .u64 (g3 a)],.agg #[.int .u64 (g0 b),.int .u64 (g1 b),.int .u64 (g2 b),.int .u64 (g3 b)]] w fun e w'=>e=.returned (.tuple #[.agg #[.int .u64 (g0 (a / b)),.int .u64 (g1 (a / b)),.int .u64 (g2 (a / b)),.int .u64 (g3 (a / b))],.agg #[.int .u64 (g0 (a % b)),.int .u64 (g1 (a % b)),.int .u64 (g2 (a % b)),.int .u64 (g3 (a % b))]])∧Below w.heap.size w w':=by
 have z0:=g0_bd a
 have z1:=g1_bd a
 have z2:=g2_bd a
 have z3:=g3_bd a
 have y0:=g0_bd b
 have y1:=g1_bd b
 have y2:=g2_bd b
 have y3:=g3_bd b
 go_enter Tryz.func171,Tryz.ntmps171
 go_wp2
 go_loopw [8] (fun i wr=>∃ (k:Nat) (t0 t1 t2 t3 R:Int),k≤128∧0≤t0∧t0<4294967296∧0≤t1∧t1<4294967296∧0≤t2∧t2<4294967296∧0≤t3∧t3<4294967296∧Hid (Inv a b k t0 t1 t2 t3 R)∧(∃ i0:Int,i0=(k:Int) - 1∧i=.int .i64 i0)∧Below w.heap.size w wr∧w.heap.size+1+1+1+1+1<wr.heap.size∧Blk wr (w.heap.size) (g0 (a)) (g1 (a)) (g2 (a)) (g3 (a))∧Blk wr (w.heap.size+1) (g0 (b)) (g1 (b)) (g2 (b)) (g3 (b))∧Blk wr (w.heap.size+1+1+1+1) (t0) (t1) (t2) (t3)∧Blk wr (w.heap.size+1+1+1+1+1) (g0 (R)) (g1 (R)) (g2 (R)) (g3 (R))∧Blk wr (w.heap.size+1+1) (0) (0) (0) (0)∧Blk wr (w.heap.size+1+1+1) (0) (0) (0) (0)) (fun i _=>(intOf i+1).toNat)
 case atStart=>
  refine ⟨128,0,0,0,0,0,by omega,by omega,by omega,by omega,by omega,by omega,by omega,by omega,by omega,inv_start a b ha ha',⟨127,by decide,rfl⟩,by go_grown,by go_size, ?_, ?_, ?_, ?_, ?_, ?_⟩
  all_goals (constructor<;>simp (maxDischargeDepth:=12) [go_sem,show g0 0=0 by decide,show g1 0=0 by decide,show g2 0=0 by decide,show g3 0=0 by decide])
 case round=>
  obtain ⟨k,t0,t1,t2,t3,R,hk,p0,q0,p1,q1,p2,q2,p3,q3,hI,⟨i0,hi0,rfl⟩,hBw,hsz,kA,kB,kT,kR,kX,kY⟩:=hrel
  by_cases hk0:k=0
  ·subst hk0
   have hi1:i0<0:=by omega
   have hi2:(0≤i0)=False:=by simp;omega
   clear hi0
   obtain ⟨t0',t1',t2',t3'⟩:Hid (g0 (a / b)=t0)∧Hid (g1 (a / b)=t1)∧Hid (g2 (a / b)=t2)∧Hid (g3 (a / b)=t3):=by
    have e:=hI.out.times
    simp at e
    have:=g_of t0 t1 t2 t3 ⟨p0,by omega⟩ ⟨p1,by omega⟩ ⟨p2,by omega⟩ ⟨p3,by omega⟩
    rw [e] at this;exact this
   have eR:Hid (R=a % b):=by have e:=hI.out.rest;simp at e;exact e
   have kXX:=kX
   obtain ⟨kX0,kX1,kX2,kX3,kX4,kX5,kX6,kX7⟩:=kX
   have kYY:=kY
   obtain ⟨kY0,kY1,kY2,kY3,kY4,kY5,kY6,kY7⟩:=kY
   obtain ⟨kT0,kT1,kT2,kT3, -, -, -, -⟩:=kT
   obtain ⟨kR0,kR1,kR2,kR3, -, -, -, -⟩:=kR
   clear hI
   go_wp2
   go_region
   generalize hW:World.drew _=W9
   have kX':Blk W9 (w.heap.size+1+1) t0 t1 t2 t3:=by rw [← hW];exact ((kXX.four t0 t1 t2 t3).other4 (by omega)).drew
   have kY':Blk W9 (w.heap.size+1+1+1) (g0 R) (g1 R) (g2 R) (g3 R):=by rw [← hW];exact ((kYY.other4 (by omega)).four _ _ _ _).drew
   have hB9:Below w.heap.size w W9:=by rw [← hW];repeat' (first | (with_reducible exact Below.refl _ _) | (with_reducible assumption) | (with_reducible refine bdrewN _ ?_) | (with_reducible refine Below.alloc ?_ ?_ _) | (with_reducible refine Below.setCell ?_ ?_ _) | (with_reducible refine Below.drew ?_) | go_size | (simp;omega))
   clear hW
   obtain ⟨x0,x1,x2,x3, -, -, -, -⟩:=kX'
   obtain ⟨x4,x5,x6,x7, -, -, -, -⟩:=kY'
   go_wp2
   refine bodyPost_ret (by simp [results,Tryz.results171,go_sem,x0,x1,x2,x3,x4,x5,x6,x7];try rfl) rfl ?_
   exact ⟨ret_two t0'.out.symm t1'.out.symm t2'.out.symm t3'.out.symm (by rw [eR.out]) (by rw [eR.out]) (by rw [eR.out]) (by rw [eR.out]),hB9⟩
  ·have hR:R=a / 2 ^ k % b:=hI.out.rest
   have hR0:0≤R:=by rw [hR];exact Int.emod_nonneg _ (by omega)
   have hR1:R<b:=by rw [hR];exact Int.emod_lt_of_pos _ hb
   clear hR
   have hi1:0≤i0:=by omega
   have hi3:i0≤127:=by omega
   obtain ⟨s,hs,hks⟩:∃ s:Nat,s<32∧(k=0+s+1∨k=32+s+1∨k=64+s+1∨k=96+s+1):=⟨(k - 1) % 32,by omega,by omega⟩
   have hs':(s:Int)<32:=by omega
   have hp1:=pow_pos_i s
   have hp2:(2:Int) ^ s≤2147483648:=by
    have:(2:Int) ^ s*2 ^ (31 - s)=2147483648:=by rw [← Int.pow_add,show s+(31 - s)=31 by omega];rfl
    have h2:(1:Int)≤2 ^ (31 - s):=pow_pos_i _
    have h3:(2:Int) ^ s*1≤2 ^ s*2 ^ (31 - s):=Int.mul_le_mul_of_nonneg_left h2 (by omega)
    omega
   rcases hks with rfl | rfl | rfl | rfl
   ·obtain ⟨st1,st2⟩:=inv_step0 a b t0 t1 t2 t3 R s hs hb p0 q0 hI.out
    obtain ⟨bit,eB⟩:∃ bit:Int,g0 a / 2 ^ s % 2=bit:=⟨_,rfl⟩
    have hb0:0≤bit:=by omega
    have hb1:bit≤1:=by omega
    obtain ⟨X,hX⟩:∃ X:Int,2*R+bit=X:=⟨_,rfl⟩
    have hX0:0≤X:=by omega
    have hX1:X<340282366920938463463374607431768211456:=by omega
    rw [eB,hX] at st1 st2
    have e1:i0 / 32=0:=by omega
    have e3:i0 % 32=(s:Int):=by omega
    have e2:IntKind.i64.wrap (i0.tdiv 32)=0:=by rw [Int.tdiv_eq_ediv_of_nonneg hi1,e1];rfl
    have e4:IntKind.i64.wrap (i0.tmod 32)=(s:Int):=by rw [Int.tmod_eq_emod_of_nonneg hi1,e3];go_arith
    obtain ⟨d0,d1,d2,d3⟩:=dig_bit R bit hb0 hb1
    rw [hX] at d0 d1 d2 d3
    have HB:Hid (i0=(0+s+1:Nat) - 1):=hi0
    clear hi0
    have K:Hid (Blk wr (w.heap.size) (g0 (a)) (g1 (a)) (g2 (a)) (g3 (a))∧Blk wr (w.heap.size+1) (g0 (b)) (g1 (b)) (g2 (b)) (g3 (b))∧Blk wr (w.heap.size+1+1+1+1) t0 t1 t2 t3∧Blk wr (w.heap.size+1+1) 0 0 0 0∧Blk wr (w.heap.size+1+1+1) 0 0 0 0):=⟨kA,kB,kT,kX,kY⟩
    clear kA kB kT kX kY
    obtain ⟨kR0,kR1,kR2,kR3,kR4,kR5,kR6,kR7⟩:=kR
    go_wp2_with fail
    refine (rplus_any R R _ hR0 hR0 (by omega)).mono ?_
    rintro e w1 ⟨rfl,hb1⟩
    obtain ⟨n0,n1,n2,n3⟩:=(⟨bcl2 hb1 kR0 (by simp;omega),bcl2 hb1 kR1 (by simp;omega),bcl2 hb1 kR2 (by simp;omega),bcl2 hb1 kR3 (by simp;omega)⟩:w1.cell? ⟨w.heap.size+1+1+1+1+1,0,none⟩=some (.int .u64 (g0 R))∧w1.cell? ⟨w.heap.size+1+1+1+1+1,1,none⟩=some (.int .u64 (g1 R))∧w1.cell? ⟨w.heap.size+1+1+1+1+1,2,none⟩=some (.int .u64 (g2 R))∧w1.cell? ⟨w.heap.size+1+1+1+1+1,3,none⟩=some (.int .u64 (g3 R)))
    obtain ⟨f0,f1,f2,f3⟩:=(⟨bfr2 hb1 kR4 (by simp;omega),bfr2 hb1 kR5 (by simp;omega),bfr2 hb1 kR6 (by simp;omega),bfr2 hb1 kR7 (by simp;omega)⟩:w1.frozen? ⟨w.heap.size+1+1+1+1+1,0,none⟩=false∧w1.frozen? ⟨w.heap.size+1+1+1+1+1,1,none⟩=false∧w1.frozen? ⟨w.heap.size+1+1+1+1+1,2,none⟩=false∧w1.frozen? ⟨w.heap.size+1+1+1+1+1,3,none⟩=false)
    go_wp2_with fail
    refine wp_world ?_
    intro W1 hW1
    have K1:Blk W1 (w.heap.size) (g0 (a)) (g1 (a)) (g2 (a)) (g3 (a))∧Blk W1 (w.heap.size+1) (g0 (b)) (g1 (b)) (g2 (b)) (g3 (b))∧Blk W1 (w.heap.size+1+1+1+1) t0 t1 t2 t3∧Blk W1 (w.heap.size+1+1) 0 0 0 0∧Blk W1 (w.heap.size+1+1+1) 0 0 0 0:=by
     obtain ⟨u1,u2,u3,u4,u5⟩:=K.out
     rw [hW1]
     exact ⟨(u1.below hb1 (by omega)).other4 (by omega),(u2.below hb1 (by omega)).other4 (by omega),(u3.below hb1 (by omega)).other4 (by omega),(u4.below hb1 (by omega)).other4 (by omega),(u5.below hb1 (by omega)).other4 (by omega)⟩
    have K1R:Blk W1 (w.heap.size+1+1+1+1+1) (g0 (R+R)) (g1 X) (g2 X) (g3 X):=by
     rw [hW1];exact Blk.four ⟨n0,n1,n2,n3,f0,f1,f2,f3⟩ _ _ _ _
    have hB1:Below w.heap.size w W1:=by
     have:=hBw.trans (hb1.mono hBw.size)
     rw [hW1];repeat' (first | (with_reducible exact Below.refl _ _) | (with_reducible assumption) | (with_reducible refine bdrewN _ ?_) | (with_reducible refine Below.alloc ?_ ?_ _) | (with_reducible refine Below.setCell ?_ ?_ _) | (with_reducible refine Below.drew ?_) | go_size | (simp;omega))
    have hs1:w.heap.size+1+1+1+1+1<W1.heap.size:=by
     have:=hb1.size
     rw [hW1];simp;omega
    clear hW1 n0 n1 n2 n3 f0 f1 f2 f3 kR0 kR1 kR2 kR3 kR4 kR5 kR6 kR7 hb1 K hBw hsz
    have KK:Hid (Blk W1 (w.heap.size) (g0 (a)) (g1 (a)) (g2 (a)) (g3 (a))∧Blk W1 (w.heap.size+1) (g0 (b)) (g1 (b)) (g2 (b)) (g3 (b))∧Blk W1 (w.heap.size+1+1+1+1) t0 t1 t2 t3∧Blk W1 (w.heap.size+1+1) 0 0 0 0∧Blk W1 (w.heap.size+1+1+1) 0 0 0 0):=K1
    have KR:Hid (Blk W1 (w.heap.size+1+1+1+1+1) (g0 (R+R)) (g1 X) (g2 X) (g3 X)):=K1R
    obtain ⟨⟨v0,v1,v2,v3, -, -, -, -⟩, -⟩:=K1
    obtain ⟨r0, -, -, -,r4, -, -, -⟩:=K1R
    go_region
    generalize hW:World.setCell _ _ _=W2
    have ev:IntKind.u64.wrap (g0 (R+R)+(g0 a / 2 ^ s).tmod 2)=g0 X:=by
     have e:=g0_bd a
     have:0≤g0 a / 2 ^ s:=Int.ediv_nonneg e.1 (by omega)
     rw [Int.tmod_eq_emod_of_nonneg this,eB,d0]
     have:=g0_bd X
     rw [IntKind.wrap_u64];omega
    have K2R:Blk W2 (w.heap.size+1+1+1+1+1) (g0 X) (g1 X) (g2 X) (g3 X):=by
     rw [← hW,ev];exact KR.out.set0 _
    have K2:Hid (Blk W2 (w.heap.size) (g0 (a)) (g1 (a)) (g2 (a)) (g3 (a))∧Blk W2 (w.heap.size+1) (g0 (b)) (g1 (b)) (g2 (b)) (g3 (b))∧Blk W2 (w.heap.size+1+1+1+1) t0 t1 t2 t3∧Blk W2 (w.heap.size+1+1) 0 0 0 0∧Blk W2 (w.heap.size+1+1+1) 0 0 0 0):=by
     obtain ⟨u1,u2,u3,u4,u5⟩:=KK.out
     rw [← hW]
     exact ⟨u1.other (by omega),u2.other (by omega),u3.other (by omega),u4.other (by omega),u5.other (by omega)⟩
    have hB2:Below w.heap.size w W2:=by rw [← hW];repeat' (first | (with_reducible exact Below.refl _ _) | (with_reducible assumption) | (with_reducible refine bdrewN _ ?_) | (with_reducible refine Below.alloc ?_ ?_ _) | (with_reducible refine Below.setCell ?_ ?_ _) | (with_reducible refine Below.drew ?_) | go_size | (simp;omega))
    have hs2:w.heap.size+1+1+1+1+1<W2.heap.size:=by rw [← hW];simp;omega
    clear hW ev KK KR hB1 hs1 v0 v1 v2 v3 r0 r4 d0 d1 d2 d3
    have KR:Hid (Blk W2 (w.heap.size+1+1+1+1+1) (g0 X) (g1 X) (g2 X) (g3 X)):=K2R
    obtain ⟨r0,r1,r2,r3,r4,r5,r6,r7⟩:=K2R
    obtain ⟨l0,l1,l2,l3, -, -, -, -⟩:=K2.out.2.1
    obtain ⟨c,ec⟩:∃ c:Int,Hid (cmpI X b=c):=⟨_,rfl⟩
    by_cases hc:b≤X
    ·have hc0:0≤c:=by rw [← ec.out];unfold cmpI;split<;>(try split)<;>omega
     obtain ⟨y1,y2⟩:=st1 hc
     clear st1 st2
     go_wp2_with fail
     refine (rcompare_any X b _ hX0 hX1 (by omega) (by omega)).mono ?_
     rintro e w3 ⟨rfl,hb3⟩
     rw [ec.out]
     have hH:W2.drew.heap.size=W2.heap.size:=rfl
     rw [hH] at hb3
     have hb4:Below W2.heap.size W2 w3:=⟨hb3.os,hb3.tape,hb3.output,hb3.size,hb3.block⟩
     have hB3:=hB2.trans (hb4.mono hB2.size)
     have hs3:=hb4.size
     have hs4:w.heap.size+1+1+1+1+1<w3.heap.size:=by omega
     have K3:Hid (Blk w3 (w.heap.size) (g0 (a)) (g1 (a)) (g2 (a)) (g3 (a))∧Blk w3 (w.heap.size+1) (g0 (b)) (g1 (b)) (g2 (b)) (g3 (b))∧Blk w3 (w.heap.size+1+1+1+1) t0 t1 t2 t3∧Blk w3 (w.heap.size+1+1) 0 0 0 0∧Blk w3 (w.heap.size+1+1+1) 0 0 0 0):=by
      obtain ⟨u1,u2,u3,u4,u5⟩:=K2.out
      exact ⟨u1.below hb4 (by omega),u2.below hb4 (by omega),u3.below hb4 (by omega),u4.below hb4 (by omega),u5.below hb4 (by omega)⟩
     have K3R:Hid (Blk w3 (w.heap.size+1+1+1+1+1) (g0 X) (g1 X) (g2 X) (g3 X)):=KR.out.below hb4 (by omega)
     clear hb3 hb4 hs3 hs2 hB2 K2 KR r0 r1 r2 r3 r4 r5 r6 r7 l0 l1 l2 l3 hH
     obtain ⟨r0,r1,r2,r3, -, -, -, -⟩:=K3R.out
     obtain ⟨l0,l1,l2,l3, -, -, -, -⟩:=K3.out.2.1
     go_wp2_with fail
     refine (rless_any X b _ (by omega) hc hX1).mono ?_
     rintro e w4 ⟨rfl,hb5⟩
     have hB4:=hB3.trans (hb5.mono hB3.size)
     have hs5:=hb5.size
     have K4:Hid (Blk w4 (w.heap.size) (g0 (a)) (g1 (a)) (g2 (a)) (g3 (a))∧Blk w4 (w.heap.size+1) (g0 (b)) (g1 (b)) (g2 (b)) (g3 (b))∧Blk w4 (w.heap.size+1+1+1+1) t0 t1 t2 t3∧Blk w4 (w.heap.size+1+1) 0 0 0 0∧Blk w4 (w.heap.size+1+1+1) 0 0 0 0):=by
      obtain ⟨u1,u2,u3,u4,u5⟩:=K3.out
      exact ⟨u1.below hb5 (by omega),u2.below hb5 (by omega),u3.below hb5 (by omega),u4.below hb5 (by omega),u5.below hb5 (by omega)⟩
     have K4R:Hid (Blk w4 (w.heap.size+1+1+1+1+1) (g0 X) (g1 X) (g2 X) (g3 X)):=K3R.out.below hb5 (by omega)
     have hs6:w.heap.size+1+1+1+1+1<w4.heap.size:=by omega
     clear hb5 hs5 hs4 hB3 K3 K3R r0 r1 r2 r3 l0 l1 l2 l3
     obtain ⟨r0,r1,r2,r3,r4,r5,r6,r7⟩:=K4R.out
     obtain ⟨l0,l1,l2,l3,l4,l5,l6,l7⟩:=K4.out.2.2.1
     obtain ⟨u1,u2,u3,u4,u5⟩:=K4.out
     have u6:=K4R.out
     go_wp2
     exact ⟨⟨0+s,(t0+2 ^ s),t1,t2,t3,X - b,by omega,(by omega),y1,p1,q1,p2,q2,p3,q3,y2,⟨i0 - 1,by have:=HB.out;omega,rfl⟩,(by repeat' (first | (with_reducible exact Below.refl _ _) | (with_reducible assumption) | (with_reducible refine bdrewN _ ?_) | (with_reducible refine Below.alloc ?_ ?_ _) | (with_reducible refine Below.setCell ?_ ?_ _) | (with_reducible refine Below.drew ?_) | go_size | (simp;omega))),by simp;omega,(u1.other4 (by omega)).other (by omega),(u2.other4 (by omega)).other (by omega),(u3.other4 (by omega)).set0 _,(u6.four _ _ _ _).other (by omega),(u4.other4 (by omega)).other (by omega),(u5.other4 (by omega)).other (by omega)⟩,by simp [intOf];omega⟩
    ·have hc0:(0≤c)=False:=by simp;rw [← ec.out];unfold cmpI;split<;>(try split)<;>omega
     have hc1:c<0:=by simpa using hc0
     have y2:=st2 (by omega)
     clear st1 st2
     go_wp2_with fail
     refine (rcompare_any X b _ hX0 hX1 (by omega) (by omega)).mono ?_
     rintro e w3 ⟨rfl,hb3⟩
     rw [ec.out]
     obtain ⟨u1,u2,u3,u4,u5⟩:=K2.out
     have u6:=KR.out
     have hH:W2.drew.heap.size=W2.heap.size:=rfl
     rw [hH] at hb3
     have hb4:Below W2.heap.size W2 w3:=⟨hb3.os,hb3.tape,hb3.output,hb3.size,hb3.block⟩
     have hB3:=hB2.trans (hb4.mono hB2.size)
     have hs3:=hb4.size
     go_wp2
     exact ⟨⟨0+s,t0,t1,t2,t3,X,by omega,p0,q0,p1,q1,p2,q2,p3,q3,y2,⟨i0 - 1,by have:=HB.out;omega,rfl⟩,hB3,by omega,u1.below hb4 (by omega),u2.below hb4 (by omega),u3.below hb4 (by omega),u6.below hb4 (by omega),u4.below hb4 (by omega),u5.below hb4 (by omega)⟩,by simp [intOf];omega⟩
   ·obtain ⟨st1,st2⟩:=inv_step1 a b t0 t1 t2 t3 R s hs hb p1 q1 hI.out
    obtain ⟨bit,eB⟩:∃ bit:Int,g1 a / 2 ^ s % 2=bit:=⟨_,rfl⟩
    have hb0:0≤bit:=by omega
    have hb1:bit≤1:=by omega
    obtain ⟨X,hX⟩:∃ X:Int,2*R+bit=X:=⟨_,rfl⟩
    have hX0:0≤X:=by omega
    have hX1:X<340282366920938463463374607431768211456:=by omega
    rw [eB,hX] at st1 st2
    have e1:i0 / 32=1:=by omega
    have e3:i0 % 32=(s:Int):=by omega
    have e2:IntKind.i64.wrap (i0.tdiv 32)=1:=by rw [Int.tdiv_eq_ediv_of_nonneg hi1,e1];rfl
    have e4:IntKind.i64.wrap (i0.tmod 32)=(s:Int):=by rw [Int.tmod_eq_emod_of_nonneg hi1,e3];go_arith
    obtain ⟨d0,d1,d2,d3⟩:=dig_bit R bit hb0 hb1
    rw [hX] at d0 d1 d2 d3
    have HB:Hid (i0=(32+s+1:Nat) - 1):=hi0
    clear hi0
    have K:Hid (Blk wr (w.heap.size) (g0 (a)) (g1 (a)) (g2 (a)) (g3 (a))∧Blk wr (w.heap.size+1) (g0 (b)) (g1 (b)) (g2 (b)) (g3 (b))∧Blk wr (w.heap.size+1+1+1+1) t0 t1 t2 t3∧Blk wr (w.heap.size+1+1) 0 0 0 0∧Blk wr (w.heap.size+1+1+1) 0 0 0 0):=⟨kA,kB,kT,kX,kY⟩
    clear kA kB kT kX kY
    obtain ⟨kR0,kR1,kR2,kR3,kR4,kR5,kR6,kR7⟩:=kR
    go_wp2_with fail
    refine (rplus_any R R _ hR0 hR0 (by omega)).mono ?_
    rintro e w1 ⟨rfl,hb1⟩
    obtain ⟨n0,n1,n2,n3⟩:=(⟨bcl2 hb1 kR0 (by simp;omega),bcl2 hb1 kR1 (by simp;omega),bcl2 hb1 kR2 (by simp;omega),bcl2 hb1 kR3 (by simp;omega)⟩:w1.cell? ⟨w.heap.size+1+1+1+1+1,0,none⟩=some (.int .u64 (g0 R))∧w1.cell? ⟨w.heap.size+1+1+1+1+1,1,none⟩=some (.int .u64 (g1 R))∧w1.cell? ⟨w.heap.size+1+1+1+1+1,2,none⟩=some (.int .u64 (g2 R))∧w1.cell? ⟨w.heap.size+1+1+1+1+1,3,none⟩=some (.int .u64 (g3 R)))
    obtain ⟨f0,f1,f2,f3⟩:=(⟨bfr2 hb1 kR4 (by simp;omega),bfr2 hb1 kR5 (by simp;omega),bfr2 hb1 kR6 (by simp;omega),bfr2 hb1 kR7 (by simp;omega)⟩:w1.frozen? ⟨w.heap.size+1+1+1+1+1,0,none⟩=false∧w1.frozen? ⟨w.heap.size+1+1+1+1+1,1,none⟩=false∧w1.frozen? ⟨w.heap.size+1+1+1+1+1,2,none⟩=false∧w1.frozen? ⟨w.heap.size+1+1+1+1+1,3,none⟩=false)
    go_wp2_with fail
    refine wp_world ?_
    intro W1 hW1
    have K1:Blk W1 (w.heap.size) (g0 (a)) (g1 (a)) (g2 (a)) (g3 (a))∧Blk W1 (w.heap.size+1) (g0 (b)) (g1 (b)) (g2 (b)) (g3 (b))∧Blk W1 (w.heap.size+1+1+1+1) t0 t1 t2 t3∧Blk W1 (w.heap.size+1+1) 0 0 0 0∧Blk W1 (w.heap.size+1+1+1) 0 0 0 0:=by
     obtain ⟨u1,u2,u3,u4,u5⟩:=K.out
     rw [hW1]
     exact ⟨(u1.below hb1 (by omega)).other4 (by omega),(u2.below hb1 (by omega)).other4 (by omega),(u3.below hb1 (by omega)).other4 (by omega),(u4.below hb1 (by omega)).other4 (by omega),(u5.below hb1 (by omega)).other4 (by omega)⟩
    have K1R:Blk W1 (w.heap.size+1+1+1+1+1) (g0 (R+R)) (g1 X) (g2 X) (g3 X):=by
     rw [hW1];exact Blk.four ⟨n0,n1,n2,n3,f0,f1,f2,f3⟩ _ _ _ _
    have hB1:Below w.heap.size w W1:=by
     have:=hBw.trans (hb1.mono hBw.size)
     rw [hW1];repeat' (first | (with_reducible exact Below.refl _ _) | (with_reducible assumption) | (with_reducible refine bdrewN _ ?_) | (with_reducible refine Below.alloc ?_ ?_ _) | (with_reducible refine Below.setCell ?_ ?_ _) | (with_reducible refine Below.drew ?_) | go_size | (simp;omega))
    have hs1:w.heap.size+1+1+1+1+1<W1.heap.size:=by
     have:=hb1.size
     rw [hW1];simp;omega
    clear hW1 n0 n1 n2 n3 f0 f1 f2 f3 kR0 kR1 kR2 kR3 kR4 kR5 kR6 kR7 hb1 K hBw hsz
    have KK:Hid (Blk W1 (w.heap.size) (g0 (a)) (g1 (a)) (g2 (a)) (g3 (a))∧Blk W1 (w.heap.size+1) (g0 (b)) (g1 (b)) (g2 (b)) (g3 (b))∧Blk W1 (w.heap.size+1+1+1+1) t0 t1 t2 t3∧Blk W1 (w.heap.size+1+1) 0 0 0 0∧Blk W1 (w.heap.size+1+1+1) 0 0 0 0):=K1
    have KR:Hid (Blk W1 (w.heap.size+1+1+1+1+1) (g0 (R+R)) (g1 X) (g2 X) (g3 X)):=K1R
    obtain ⟨⟨v0,v1,v2,v3, -, -, -, -⟩, -⟩:=K1
    obtain ⟨r0, -, -, -,r4, -, -, -⟩:=K1R
    go_region
    generalize hW:World.setCell _ _ _=W2
    have ev:IntKind.u64.wrap (g0 (R+R)+(g1 a / 2 ^ s).tmod 2)=g0 X:=by
     have e:=g1_bd a
     have:0≤g1 a / 2 ^ s:=Int.ediv_nonneg e.1 (by omega)
     rw [Int.tmod_eq_emod_of_nonneg this,eB,d0]
     have:=g0_bd X
     rw [IntKind.wrap_u64];omega
    have K2R:Blk W2 (w.heap.size+1+1+1+1+1) (g0 X) (g1 X) (g2 X) (g3 X):=by
     rw [← hW,ev];exact KR.out.set0 _
    have K2:Hid (Blk W2 (w.heap.size) (g0 (a)) (g1 (a)) (g2 (a)) (g3 (a))∧Blk W2 (w.heap.size+1) (g0 (b)) (g1 (b)) (g2 (b)) (g3 (b))∧Blk W2 (w.heap.size+1+1+1+1) t0 t1 t2 t3∧Blk W2 (w.heap.size+1+1) 0 0 0 0∧Blk W2 (w.heap.size+1+1+1) 0 0 0 0):=by
     obtain ⟨u1,u2,u3,u4,u5⟩:=KK.out
     rw [← hW]
     exact ⟨u1.other (by omega),u2.other (by omega),u3.other (by omega),u4.other (by omega),u5.other (by omega)⟩
    have hB2:Below w.heap.size w W2:=by rw [← hW];repeat' (first | (with_reducible exact Below.refl _ _) | (with_reducible assumption) | (with_reducible refine bdrewN _ ?_) | (with_reducible refine Below.alloc ?_ ?_ _) | (with_reducible refine Below.setCell ?_ ?_ _) | (with_reducible refine Below.drew ?_) | go_size | (simp;omega))
    have hs2:w.heap.size+1+1+1+1+1<W2.heap.size:=by rw [← hW];simp;omega
    clear hW ev KK KR hB1 hs1 v0 v1 v2 v3 r0 r4 d0 d1 d2 d3
    have KR:Hid (Blk W2 (w.heap.size+1+1+1+1+1) (g0 X) (g1 X) (g2 X) (g3 X)):=K2R
    obtain ⟨r0,r1,r2,r3,r4,r5,r6,r7⟩:=K2R
    obtain ⟨l0,l1,l2,l3, -, -, -, -⟩:=K2.out.2.1
    obtain ⟨c,ec⟩:∃ c:Int,Hid (cmpI X b=c):=⟨_,rfl⟩
    by_cases hc:b≤X
    ·have hc0:0≤c:=by rw [← ec.out];unfold cmpI;split<;>(try split)<;>omega
     obtain ⟨y1,y2⟩:=st1 hc
     clear st1 st2
     go_wp2_with fail
     refine (rcompare_any X b _ hX0 hX1 (by omega) (by omega)).mono ?_
     rintro e w3 ⟨rfl,hb3⟩
     rw [ec.out]
     have hH:W2.drew.heap.size=W2.heap.size:=rfl
     rw [hH] at hb3
     have hb4:Below W2.heap.size W2 w3:=⟨hb3.os,hb3.tape,hb3.output,hb3.size,hb3.block⟩
     have hB3:=hB2.trans (hb4.mono hB2.size)
     have hs3:=hb4.size
     have hs4:w.heap.size+1+1+1+1+1<w3.heap.size:=by omega
     have K3:Hid (Blk w3 (w.heap.size) (g0 (a)) (g1 (a)) (g2 (a)) (g3 (a))∧Blk w3 (w.heap.size+1) (g0 (b)) (g1 (b)) (g2 (b)) (g3 (b))∧Blk w3 (w.heap.size+1+1+1+1) t0 t1 t2 t3∧Blk w3 (w.heap.size+1+1) 0 0 0 0∧Blk w3 (w.heap.size+1+1+1) 0 0 0 0):=by
      obtain ⟨u1,u2,u3,u4,u5⟩:=K2.out
      exact ⟨u1.below hb4 (by omega),u2.below hb4 (by omega),u3.below hb4 (by omega),u4.below hb4 (by omega),u5.below hb4 (by omega)⟩
     have K3R:Hid (Blk w3 (w.heap.size+1+1+1+1+1) (g0 X) (g1 X) (g2 X) (g3 X)):=KR.out.below hb4 (by omega)
     clear hb3 hb4 hs3 hs2 hB2 K2 KR r0 r1 r2 r3 r4 r5 r6 r7 l0 l1 l2 l3 hH
     obtain ⟨r0,r1,r2,r3, -, -, -, -⟩:=K3R.out
     obtain ⟨l0,l1,l2,l3, -, -, -, -⟩:=K3.out.2.1
     go_wp2_with fail
     refine (rless_any X b _ (by omega) hc hX1).mono ?_
     rintro e w4 ⟨rfl,hb5⟩
     have hB4:=hB3.trans (hb5.mono hB3.size)
     have hs5:=hb5.size
     have K4:Hid (Blk w4 (w.heap.size) (g0 (a)) (g1 (a)) (g2 (a)) (g3 (a))∧Blk w4 (w.heap.size+1) (g0 (b)) (g1 (b)) (g2 (b)) (g3 (b))∧Blk w4 (w.heap.size+1+1+1+1) t0 t1 t2 t3∧Blk w4 (w.heap.size+1+1) 0 0 0 0∧Blk w4 (w.heap.size+1+1+1) 0 0 0 0):=by
      obtain ⟨u1,u2,u3,u4,u5⟩:=K3.out
      exact ⟨u1.below hb5 (by omega),u2.below hb5 (by omega),u3.below hb5 (by omega),u4.below hb5 (by omega),u5.below hb5 (by omega)⟩
     have K4R:Hid (Blk w4 (w.heap.size+1+1+1+1+1) (g0 X) (g1 X) (g2 X) (g3 X)):=K3R.out.below hb5 (by omega)
     have hs6:w.heap.size+1+1+1+1+1<w4.heap.size:=by omega
     clear hb5 hs5 hs4 hB3 K3 K3R r0 r1 r2 r3 l0 l1 l2 l3
     obtain ⟨r0,r1,r2,r3,r4,r5,r6,r7⟩:=K4R.out
     obtain ⟨l0,l1,l2,l3,l4,l5,l6,l7⟩:=K4.out.2.2.1
     obtain ⟨u1,u2,u3,u4,u5⟩:=K4.out
     have u6:=K4R.out
     go_wp2
     exact ⟨⟨32+s,t0,(t1+2 ^ s),t2,t3,X - b,by omega,p0,q0,(by omega),y1,p2,q2,p3,q3,y2,⟨i0 - 1,by have:=HB.out;omega,rfl⟩,(by repeat' (first | (with_reducible exact Below.refl _ _) | (with_reducible assumption) | (with_reducible refine bdrewN _ ?_) | (with_reducible refine Below.alloc ?_ ?_ _) | (with_reducible refine Below.setCell ?_ ?_ _) | (with_reducible refine Below.drew ?_) | go_size | (simp;omega))),by simp;omega,(u1.other4 (by omega)).other (by omega),(u2.other4 (by omega)).other (by omega),(u3.other4 (by omega)).set1 _,(u6.four _ _ _ _).other (by omega),(u4.other4 (by omega)).other (by omega),(u5.other4 (by omega)).other (by omega)⟩,by simp [intOf];omega⟩
    ·have hc0:(0≤c)=False:=by simp;rw [← ec.out];unfold cmpI;split<;>(try split)<;>omega
     have hc1:c<0:=by simpa using hc0
     have y2:=st2 (by omega)
     clear st1 st2
     go_wp2_with fail
     refine (rcompare_any X b _ hX0 hX1 (by omega) (by omega)).mono ?_
     rintro e w3 ⟨rfl,hb3⟩
     rw [ec.out]
     obtain ⟨u1,u2,u3,u4,u5⟩:=K2.out
     have u6:=KR.out
     have hH:W2.drew.heap.size=W2.heap.size:=rfl
     rw [hH] at hb3
     have hb4:Below W2.heap.size W2 w3:=⟨hb3.os,hb3.tape,hb3.output,hb3.size,hb3.block⟩
     have hB3:=hB2.trans (hb4.mono hB2.size)
     have hs3:=hb4.size
     go_wp2
     exact ⟨⟨32+s,t0,t1,t2,t3,X,by omega,p0,q0,p1,q1,p2,q2,p3,q3,y2,⟨i0 - 1,by have:=HB.out;omega,rfl⟩,hB3,by omega,u1.below hb4 (by omega),u2.below hb4 (by omega),u3.below hb4 (by omega),u6.below hb4 (by omega),u4.below hb4 (by omega),u5.below hb4 (by omega)⟩,by simp [intOf];omega⟩
   ·obtain ⟨st1,st2⟩:=inv_step2 a b t0 t1 t2 t3 R s hs hb p2 q2 hI.out
    obtain ⟨bit,eB⟩:∃ bit:Int,g2 a / 2 ^ s % 2=bit:=⟨_,rfl⟩
    have hb0:0≤bit:=by omega
    have hb1:bit≤1:=by omega
    obtain ⟨X,hX⟩:∃ X:Int,2*R+bit=X:=⟨_,rfl⟩
    have hX0:0≤X:=by omega
    have hX1:X<340282366920938463463374607431768211456:=by omega
    rw [eB,hX] at st1 st2
    have e1:i0 / 32=2:=by omega
    have e3:i0 % 32=(s:Int):=by omega
    have e2:IntKind.i64.wrap (i0.tdiv 32)=2:=by rw [Int.tdiv_eq_ediv_of_nonneg hi1,e1];rfl
    have e4:IntKind.i64.wrap (i0.tmod 32)=(s:Int):=by rw [Int.tmod_eq_emod_of_nonneg hi1,e3];go_arith
    obtain ⟨d0,d1,d2,d3⟩:=dig_bit R bit hb0 hb1
    rw [hX] at d0 d1 d2 d3
    have HB:Hid (i0=(64+s+1:Nat) - 1):=hi0
    clear hi0
    have K:Hid (Blk wr (w.heap.size) (g0 (a)) (g1 (a)) (g2 (a)) (g3 (a))∧Blk wr (w.heap.size+1) (g0 (b)) (g1 (b)) (g2 (b)) (g3 (b))∧Blk wr (w.heap.size+1+1+1+1) t0 t1 t2 t3∧Blk wr (w.heap.size+1+1) 0 0 0 0∧Blk wr (w.heap.size+1+1+1) 0 0 0 0):=⟨kA,kB,kT,kX,kY⟩
    clear kA kB kT kX kY
    obtain ⟨kR0,kR1,kR2,kR3,kR4,kR5,kR6,kR7⟩:=kR
    go_wp2_with fail
    refine (rplus_any R R _ hR0 hR0 (by omega)).mono ?_
    rintro e w1 ⟨rfl,hb1⟩
    obtain ⟨n0,n1,n2,n3⟩:=(⟨bcl2 hb1 kR0 (by simp;omega),bcl2 hb1 kR1 (by simp;omega),bcl2 hb1 kR2 (by simp;omega),bcl2 hb1 kR3 (by simp;omega)⟩:w1.cell? ⟨w.heap.size+1+1+1+1+1,0,none⟩=some (.int .u64 (g0 R))∧w1.cell? ⟨w.heap.size+1+1+1+1+1,1,none⟩=some (.int .u64 (g1 R))∧w1.cell? ⟨w.heap.size+1+1+1+1+1,2,none⟩=some (.int .u64 (g2 R))∧w1.cell? ⟨w.heap.size+1+1+1+1+1,3,none⟩=some (.int .u64 (g3 R)))
    obtain ⟨f0,f1,f2,f3⟩:=(⟨bfr2 hb1 kR4 (by simp;omega),bfr2 hb1 kR5 (by simp;omega),bfr2 hb1 kR6 (by simp;omega),bfr2 hb1 kR7 (by simp;omega)⟩:w1.frozen? ⟨w.heap.size+1+1+1+1+1,0,none⟩=false∧w1.frozen? ⟨w.heap.size+1+1+1+1+1,1,none⟩=false∧w1.frozen? ⟨w.heap.size+1+1+1+1+1,2,none⟩=false∧w1.frozen? ⟨w.heap.size+1+1+1+1+1,3,none⟩=false)
    go_wp2_with fail
    refine wp_world ?_
    intro W1 hW1
    have K1:Blk W1 (w.heap.size) (g0 (a)) (g1 (a)) (g2 (a)) (g3 (a))∧Blk W1 (w.heap.size+1) (g0 (b)) (g1 (b)) (g2 (b)) (g3 (b))∧Blk W1 (w.heap.size+1+1+1+1) t0 t1 t2 t3∧Blk W1 (w.heap.size+1+1) 0 0 0 0∧Blk W1 (w.heap.size+1+1+1) 0 0 0 0:=by
     obtain ⟨u1,u2,u3,u4,u5⟩:=K.out
     rw [hW1]
     exact ⟨(u1.below hb1 (by omega)).other4 (by omega),(u2.below hb1 (by omega)).other4 (by omega),(u3.below hb1 (by omega)).other4 (by omega),(u4.below hb1 (by omega)).other4 (by omega),(u5.below hb1 (by omega)).other4 (by omega)⟩
    have K1R:Blk W1 (w.heap.size+1+1+1+1+1) (g0 (R+R)) (g1 X) (g2 X) (g3 X):=by
     rw [hW1];exact Blk.four ⟨n0,n1,n2,n3,f0,f1,f2,f3⟩ _ _ _ _
    have hB1:Below w.heap.size w W1:=by
     have:=hBw.trans (hb1.mono hBw.size)
     rw [hW1];repeat' (first | (with_reducible exact Below.refl _ _) | (with_reducible assumption) | (with_reducible refine bdrewN _ ?_) | (with_reducible refine Below.alloc ?_ ?_ _) | (with_reducible refine Below.setCell ?_ ?_ _) | (with_reducible refine Below.drew ?_) | go_size | (simp;omega))
    have hs1:w.heap.size+1+1+1+1+1<W1.heap.size:=by
     have:=hb1.size
     rw [hW1];simp;omega
    clear hW1 n0 n1 n2 n3 f0 f1 f2 f3 kR0 kR1 kR2 kR3 kR4 kR5 kR6 kR7 hb1 K hBw hsz
    have KK:Hid (Blk W1 (w.heap.size) (g0 (a)) (g1 (a)) (g2 (a)) (g3 (a))∧Blk W1 (w.heap.size+1) (g0 (b)) (g1 (b)) (g2 (b)) (g3 (b))∧Blk W1 (w.heap.size+1+1+1+1) t0 t1 t2 t3∧Blk W1 (w.heap.size+1+1) 0 0 0 0∧Blk W1 (w.heap.size+1+1+1) 0 0 0 0):=K1
    have KR:Hid (Blk W1 (w.heap.size+1+1+1+1+1) (g0 (R+R)) (g1 X) (g2 X) (g3 X)):=K1R
    obtain ⟨⟨v0,v1,v2,v3, -, -, -, -⟩, -⟩:=K1
    obtain ⟨r0, -, -, -,r4, -, -, -⟩:=K1R
    go_region
    generalize hW:World.setCell _ _ _=W2
    have ev:IntKind.u64.wrap (g0 (R+R)+(g2 a / 2 ^ s).tmod 2)=g0 X:=by
     have e:=g2_bd a
     have:0≤g2 a / 2 ^ s:=Int.ediv_nonneg e.1 (by omega)
     rw [Int.tmod_eq_emod_of_nonneg this,eB,d0]
     have:=g0_bd X
     rw [IntKind.wrap_u64];omega
    have K2R:Blk W2 (w.heap.size+1+1+1+1+1) (g0 X) (g1 X) (g2 X) (g3 X):=by
     rw [← hW,ev];exact KR.out.set0 _
    have K2:Hid (Blk W2 (w.heap.size) (g0 (a)) (g1 (a)) (g2 (a)) (g3 (a))∧Blk W2 (w.heap.size+1) (g0 (b)) (g1 (b)) (g2 (b)) (g3 (b))∧Blk W2 (w.heap.size+1+1+1+1) t0 t1 t2 t3∧Blk W2 (w.heap.size+1+1) 0 0 0 0∧Blk W2 (w.heap.size+1+1+1) 0 0 0 0):=by
     obtain ⟨u1,u2,u3,u4,u5⟩:=KK.out
     rw [← hW]
     exact ⟨u1.other (by omega),u2.other (by omega),u3.other (by omega),u4.other (by omega),u5.other (by omega)⟩
    have hB2:Below w.heap.size w W2:=by rw [← hW];repeat' (first | (with_reducible exact Below.refl _ _) | (with_reducible assumption) | (with_reducible refine bdrewN _ ?_) | (with_reducible refine Below.alloc ?_ ?_ _) | (with_reducible refine Below.setCell ?_ ?_ _) | (with_reducible refine Below.drew ?_) | go_size | (simp;omega))
    have hs2:w.heap.size+1+1+1+1+1<W2.heap.size:=by rw [← hW];simp;omega
    clear hW ev KK KR hB1 hs1 v0 v1 v2 v3 r0 r4 d0 d1 d2 d3
    have KR:Hid (Blk W2 (w.heap.size+1+1+1+1+1) (g0 X) (g1 X) (g2 X) (g3 X)):=K2R
    obtain ⟨r0,r1,r2,r3,r4,r5,r6,r7⟩:=K2R
    obtain ⟨l0,l1,l2,l3, -, -, -, -⟩:=K2.out.2.1
    obtain ⟨c,ec⟩:∃ c:Int,Hid (cmpI X b=c):=⟨_,rfl⟩
    by_cases hc:b≤X
    ·have hc0:0≤c:=by rw [← ec.out];unfold cmpI;split<;>(try split)<;>omega
     obtain ⟨y1,y2⟩:=st1 hc
     clear st1 st2
     go_wp2_with fail
     refine (rcompare_any X b _ hX0 hX1 (by omega) (by omega)).mono ?_
     rintro e w3 ⟨rfl,hb3⟩
     rw [ec.out]
     have hH:W2.drew.heap.size=W2.heap.size:=rfl
     rw [hH] at hb3
     have hb4:Below W2.heap.size W2 w3:=⟨hb3.os,hb3.tape,hb3.output,hb3.size,hb3.block⟩
     have hB3:=hB2.trans (hb4.mono hB2.size)
     have hs3:=hb4.size
     have hs4:w.heap.size+1+1+1+1+1<w3.heap.size:=by omega
     have K3:Hid (Blk w3 (w.heap.size) (g0 (a)) (g1 (a)) (g2 (a)) (g3 (a))∧Blk w3 (w.heap.size+1) (g0 (b)) (g1 (b)) (g2 (b)) (g3 (b))∧Blk w3 (w.heap.size+1+1+1+1) t0 t1 t2 t3∧Blk w3 (w.heap.size+1+1) 0 0 0 0∧Blk w3 (w.heap.size+1+1+1) 0 0 0 0):=by
      obtain ⟨u1,u2,u3,u4,u5⟩:=K2.out
      exact ⟨u1.below hb4 (by omega),u2.below hb4 (by omega),u3.below hb4 (by omega),u4.below hb4 (by omega),u5.below hb4 (by omega)⟩
     have K3R:Hid (Blk w3 (w.heap.size+1+1+1+1+1) (g0 X) (g1 X) (g2 X) (g3 X)):=KR.out.below hb4 (by omega)
     clear hb3 hb4 hs3 hs2 hB2 K2 KR r0 r1 r2 r3 r4 r5 r6 r7 l0 l1 l2 l3 hH
     obtain ⟨r0,r1,r2,r3, -, -, -, -⟩:=K3R.out
     obtain ⟨l0,l1,l2,l3, -, -, -, -⟩:=K3.out.2.1
     go_wp2_with fail
     refine (rless_any X b _ (by omega) hc hX1).mono ?_
     rintro e w4 ⟨rfl,hb5⟩
     have hB4:=hB3.trans (hb5.mono hB3.size)
     have hs5:=hb5.size
     have K4:Hid (Blk w4 (w.heap.size) (g0 (a)) (g1 (a)) (g2 (a)) (g3 (a))∧Blk w4 (w.heap.size+1) (g0 (b)) (g1 (b)) (g2 (b)) (g3 (b))∧Blk w4 (w.heap.size+1+1+1+1) t0 t1 t2 t3∧Blk w4 (w.heap.size+1+1) 0 0 0 0∧Blk w4 (w.heap.size+1+1+1) 0 0 0 0):=by
      obtain ⟨u1,u2,u3,u4,u5⟩:=K3.out
      exact ⟨u1.below hb5 (by omega),u2.below hb5 (by omega),u3.below hb5 (by omega),u4.below hb5 (by omega),u5.below hb5 (by omega)⟩
     have K4R:Hid (Blk w4 (w.heap.size+1+1+1+1+1) (g0 X) (g1 X) (g2 X) (g3 X)):=K3R.out.below hb5 (by omega)
     have hs6:w.heap.size+1+1+1+1+1<w4.heap.size:=by omega
     clear hb5 hs5 hs4 hB3 K3 K3R r0 r1 r2 r3 l0 l1 l2 l3
     obtain ⟨r0,r1,r2,r3,r4,r5,r6,r7⟩:=K4R.out
     obtain ⟨l0,l1,l2,l3,l4,l5,l6,l7⟩:=K4.out.2.2.1
     obtain ⟨u1,u2,u3,u4,u5⟩:=K4.out
     have u6:=K4R.out
     go_wp2
     exact ⟨⟨64+s,t0,t1,(t2+2 ^ s),t3,X - b,by omega,p0,q0,p1,q1,(by omega),y1,p3,q3,y2,⟨i0 - 1,by have:=HB.out;omega,rfl⟩,(by repeat' (first | (with_reducible exact Below.refl _ _) | (with_reducible assumption) | (with_reducible refine bdrewN _ ?_) | (with_reducible refine Below.alloc ?_ ?_ _) | (with_reducible refine Below.setCell ?_ ?_ _) | (with_reducible refine Below.drew ?_) | go_size | (simp;omega))),by simp;omega,(u1.other4 (by omega)).other (by omega),(u2.other4 (by omega)).other (by omega),(u3.other4 (by omega)).set2 _,(u6.four _ _ _ _).other (by omega),(u4.other4 (by omega)).other (by omega),(u5.other4 (by omega)).other (by omega)⟩,by simp [intOf];omega⟩
    ·have hc0:(0≤c)=False:=by simp;rw [← ec.out];unfold cmpI;split<;>(try split)<;>omega
     have hc1:c<0:=by simpa using hc0
     have y2:=st2 (by omega)
     clear st1 st2
     go_wp2_with fail
     refine (rcompare_any X b _ hX0 hX1 (by omega) (by omega)).mono ?_
     rintro e w3 ⟨rfl,hb3⟩
     rw [ec.out]
     obtain ⟨u1,u2,u3,u4,u5⟩:=K2.out
     have u6:=KR.out
     have hH:W2.drew.heap.size=W2.heap.size:=rfl
     rw [hH] at hb3
     have hb4:Below W2.heap.size W2 w3:=⟨hb3.os,hb3.tape,hb3.output,hb3.size,hb3.block⟩
     have hB3:=hB2.trans (hb4.mono hB2.size)
     have hs3:=hb4.size
     go_wp2
     exact ⟨⟨64+s,t0,t1,t2,t3,X,by omega,p0,q0,p1,q1,p2,q2,p3,q3,y2,⟨i0 - 1,by have:=HB.out;omega,rfl⟩,hB3,by omega,u1.below hb4 (by omega),u2.below hb4 (by omega),u3.below hb4 (by omega),u6.below hb4 (by omega),u4.below hb4 (by omega),u5.below hb4 (by omega)⟩,by simp [intOf];omega⟩
   ·obtain ⟨st1,st2⟩:=inv_step3 a b t0 t1 t2 t3 R s hs hb p3 q3 hI.out
    obtain ⟨bit,eB⟩:∃ bit:Int,g3 a / 2 ^ s % 2=bit:=⟨_,rfl⟩
    have hb0:0≤bit:=by omega
    have hb1:bit≤1:=by omega
    obtain ⟨X,hX⟩:∃ X:Int,2*R+bit=X:=⟨_,rfl⟩
    have hX0:0≤X:=by omega
    have hX1:X<340282366920938463463374607431768211456:=by omega
    rw [eB,hX] at st1 st2
    have e1:i0 / 32=3:=by omega
    have e3:i0 % 32=(s:Int):=by omega
    have e2:IntKind.i64.wrap (i0.tdiv 32)=3:=by rw [Int.tdiv_eq_ediv_of_nonneg hi1,e1];rfl
    have e4:IntKind.i64.wrap (i0.tmod 32)=(s:Int):=by rw [Int.tmod_eq_emod_of_nonneg hi1,e3];go_arith
    obtain ⟨d0,d1,d2,d3⟩:=dig_bit R bit hb0 hb1
    rw [hX] at d0 d1 d2 d3
    have HB:Hid (i0=(96+s+1:Nat) - 1):=hi0
    clear hi0
    have K:Hid (Blk wr (w.heap.size) (g0 (a)) (g1 (a)) (g2 (a)) (g3 (a))∧Blk wr (w.heap.size+1) (g0 (b)) (g1 (b)) (g2 (b)) (g3 (b))∧Blk wr (w.heap.size+1+1+1+1) t0 t1 t2 t3∧Blk wr (w.heap.size+1+1) 0 0 0 0∧Blk wr (w.heap.size+1+1+1) 0 0 0 0):=⟨kA,kB,kT,kX,kY⟩
    clear kA kB kT kX kY
    obtain ⟨kR0,kR1,kR2,kR3,kR4,kR5,kR6,kR7⟩:=kR
    go_wp2_with fail
    refine (rplus_any R R _ hR0 hR0 (by omega)).mono ?_
    rintro e w1 ⟨rfl,hb1⟩
    obtain ⟨n0,n1,n2,n3⟩:=(⟨bcl2 hb1 kR0 (by simp;omega),bcl2 hb1 kR1 (by simp;omega),bcl2 hb1 kR2 (by simp;omega),bcl2 hb1 kR3 (by simp;omega)⟩:w1.cell? ⟨w.heap.size+1+1+1+1+1,0,none⟩=some (.int .u64 (g0 R))∧w1.cell? ⟨w.heap.size+1+1+1+1+1,1,none⟩=some (.int .u64 (g1 R))∧w1.cell? ⟨w.heap.size+1+1+1+1+1,2,none⟩=some (.int .u64 (g2 R))∧w1.cell? ⟨w.heap.size+1+1+1+1+1,3,none⟩=some (.int .u64 (g3 R)))
    obtain ⟨f0,f1,f2,f3⟩:=(⟨bfr2 hb1 kR4 (by simp;omega),bfr2 hb1 kR5 (by simp;omega),bfr2 hb1 kR6 (by simp;omega),bfr2 hb1 kR7 (by simp;omega)⟩:w1.frozen? ⟨w.heap.size+1+1+1+1+1,0,none⟩=false∧w1.frozen? ⟨w.heap.size+1+1+1+1+1,1,none⟩=false∧w1.frozen? ⟨w.heap.size+1+1+1+1+1,2,none⟩=false∧w1.frozen? ⟨w.heap.size+1+1+1+1+1,3,none⟩=false)
    go_wp2_with fail
    refine wp_world ?_
    intro W1 hW1
    have K1:Blk W1 (w.heap.size) (g0 (a)) (g1 (a)) (g2 (a)) (g3 (a))∧Blk W1 (w.heap.size+1) (g0 (b)) (g1 (b)) (g2 (b)) (g3 (b))∧Blk W1 (w.heap.size+1+1+1+1) t0 t1 t2 t3∧Blk W1 (w.heap.size+1+1) 0 0 0 0∧Blk W1 (w.heap.size+1+1+1) 0 0 0 0:=by
     obtain ⟨u1,u2,u3,u4,u5⟩:=K.out
     rw [hW1]
     exact ⟨(u1.below hb1 (by omega)).other4 (by omega),(u2.below hb1 (by omega)).other4 (by omega),(u3.below hb1 (by omega)).other4 (by omega),(u4.below hb1 (by omega)).other4 (by omega),(u5.below hb1 (by omega)).other4 (by omega)⟩
    have K1R:Blk W1 (w.heap.size+1+1+1+1+1) (g0 (R+R)) (g1 X) (g2 X) (g3 X):=by
     rw [hW1];exact Blk.four ⟨n0,n1,n2,n3,f0,f1,f2,f3⟩ _ _ _ _
    have hB1:Below w.heap.size w W1:=by
     have:=hBw.trans (hb1.mono hBw.size)
     rw [hW1];repeat' (first | (with_reducible exact Below.refl _ _) | (with_reducible assumption) | (with_reducible refine bdrewN _ ?_) | (with_reducible refine Below.alloc ?_ ?_ _) | (with_reducible refine Below.setCell ?_ ?_ _) | (with_reducible refine Below.drew ?_) | go_size | (simp;omega))
    have hs1:w.heap.size+1+1+1+1+1<W1.heap.size:=by
     have:=hb1.size
     rw [hW1];simp;omega
    clear hW1 n0 n1 n2 n3 f0 f1 f2 f3 kR0 kR1 kR2 kR3 kR4 kR5 kR6 kR7 hb1 K hBw hsz
    have KK:Hid (Blk W1 (w.heap.size) (g0 (a)) (g1 (a)) (g2 (a)) (g3 (a))∧Blk W1 (w.heap.size+1) (g0 (b)) (g1 (b)) (g2 (b)) (g3 (b))∧Blk W1 (w.heap.size+1+1+1+1) t0 t1 t2 t3∧Blk W1 (w.heap.size+1+1) 0 0 0 0∧Blk W1 (w.heap.size+1+1+1) 0 0 0 0):=K1
    have KR:Hid (Blk W1 (w.heap.size+1+1+1+1+1) (g0 (R+R)) (g1 X) (g2 X) (g3 X)):=K1R
    obtain ⟨⟨v0,v1,v2,v3, -, -, -, -⟩, -⟩:=K1
    obtain ⟨r0, -, -, -,r4, -, -, -⟩:=K1R
    go_region
    generalize hW:World.setCell _ _ _=W2
    have ev:IntKind.u64.wrap (g0 (R+R)+(g3 a / 2 ^ s).tmod 2)=g0 X:=by
     have e:=g3_bd a
     have:0≤g3 a / 2 ^ s:=Int.ediv_nonneg e.1 (by omega)
     rw [Int.tmod_eq_emod_of_nonneg this,eB,d0]
     have:=g0_bd X
     rw [IntKind.wrap_u64];omega
    have K2R:Blk W2 (w.heap.size+1+1+1+1+1) (g0 X) (g1 X) (g2 X) (g3 X):=by
     rw [← hW,ev];exact KR.out.set0 _
    have K2:Hid (Blk W2 (w.heap.size) (g0 (a)) (g1 (a)) (g2 (a)) (g3 (a))∧Blk W2 (w.heap.size+1) (g0 (b)) (g1 (b)) (g2 (b)) (g3 (b))∧Blk W2 (w.heap.size+1+1+1+1) t0 t1 t2 t3∧Blk W2 (w.heap.size+1+1) 0 0 0 0∧Blk W2 (w.heap.size+1+1+1) 0 0 0 0):=by
     obtain ⟨u1,u2,u3,u4,u5⟩:=KK.out
     rw [← hW]
     exact ⟨u1.other (by omega),u2.other (by omega),u3.other (by omega),u4.other (by omega),u5.other (by omega)⟩
    have hB2:Below w.heap.size w W2:=by rw [← hW];repeat' (first | (with_reducible exact Below.refl _ _) | (with_reducible assumption) | (with_reducible refine bdrewN _ ?_) | (with_reducible refine Below.alloc ?_ ?_ _) | (with_reducible refine Below.setCell ?_ ?_ _) | (with_reducible refine Below.drew ?_) | go_size | (simp;omega))
    have hs2:w.heap.size+1+1+1+1+1<W2.heap.size:=by rw [← hW];simp;omega
    clear hW ev KK KR hB1 hs1 v0 v1 v2 v3 r0 r4 d0 d1 d2 d3
    have KR:Hid (Blk W2 (w.heap.size+1+1+1+1+1) (g0 X) (g1 X) (g2 X) (g3 X)):=K2R
    obtain ⟨r0,r1,r2,r3,r4,r5,r6,r7⟩:=K2R
    obtain ⟨l0,l1,l2,l3, -, -, -, -⟩:=K2.out.2.1
    obtain ⟨c,ec⟩:∃ c:Int,Hid (cmpI X b=c):=⟨_,rfl⟩
    by_cases hc:b≤X
    ·have hc0:0≤c:=by rw [← ec.out];unfold cmpI;split<;>(try split)<;>omega
     obtain ⟨y1,y2⟩:=st1 hc
     clear st1 st2
     go_wp2_with fail
     refine (rcompare_any X b _ hX0 hX1 (by omega) (by omega)).mono ?_
     rintro e w3 ⟨rfl,hb3⟩
     rw [ec.out]
     have hH:W2.drew.heap.size=W2.heap.size:=rfl
     rw [hH] at hb3
     have hb4:Below W2.heap.size W2 w3:=⟨hb3.os,hb3.tape,hb3.output,hb3.size,hb3.block⟩
     have hB3:=hB2.trans (hb4.mono hB2.size)
     have hs3:=hb4.size
     have hs4:w.heap.size+1+1+1+1+1<w3.heap.size:=by omega
     have K3:Hid (Blk w3 (w.heap.size) (g0 (a)) (g1 (a)) (g2 (a)) (g3 (a))∧Blk w3 (w.heap.size+1) (g0 (b)) (g1 (b)) (g2 (b)) (g3 (b))∧Blk w3 (w.heap.size+1+1+1+1) t0 t1 t2 t3∧Blk w3 (w.heap.size+1+1) 0 0 0 0∧Blk w3 (w.heap.size+1+1+1) 0 0 0 0):=by
      obtain ⟨u1,u2,u3,u4,u5⟩:=K2.out
      exact ⟨u1.below hb4 (by omega),u2.below hb4 (by omega),u3.below hb4 (by omega),u4.below hb4 (by omega),u5.below hb4 (by omega)⟩
     have K3R:Hid (Blk w3 (w.heap.size+1+1+1+1+1) (g0 X) (g1 X) (g2 X) (g3 X)):=KR.out.below hb4 (by omega)
     clear hb3 hb4 hs3 hs2 hB2 K2 KR r0 r1 r2 r3 r4 r5 r6 r7 l0 l1 l2 l3 hH
     obtain ⟨r0,r1,r2,r3, -, -, -, -⟩:=K3R.out
     obtain ⟨l0,l1,l2,l3, -, -, -, -⟩:=K3.out.2.1
     go_wp2_with fail
     refine (rless_any X b _ (by omega) hc hX1).mono ?_
     rintro e w4 ⟨rfl,hb5⟩
     have hB4:=hB3.trans (hb5.mono hB3.size)
     have hs5:=hb5.size
     have K4:Hid (Blk w4 (w.heap.size) (g0 (a)) (g1 (a)) (g2 (a)) (g3 (a))∧Blk w4 (w.heap.size+1) (g0 (b)) (g1 (b)) (g2 (b)) (g3 (b))∧Blk w4 (w.heap.size+1+1+1+1) t0 t1 t2 t3∧Blk w4 (w.heap.size+1+1) 0 0 0 0∧Blk w4 (w.heap.size+1+1+1) 0 0 0 0):=by
      obtain ⟨u1,u2,u3,u4,u5⟩:=K3.out
      exact ⟨u1.below hb5 (by omega),u2.below hb5 (by omega),u3.below hb5 (by omega),u4.below hb5 (by omega),u5.below hb5 (by omega)⟩
     have K4R:Hid (Blk w4 (w.heap.size+1+1+1+1+1) (g0 X) (g1 X) (g2 X) (g3 X)):=K3R.out.below hb5 (by omega)
     have hs6:w.heap.size+1+1+1+1+1<w4.heap.size:=by omega
     clear hb5 hs5 hs4 hB3 K3 K3R r0 r1 r2 r3 l0 l1 l2 l3
     obtain ⟨r0,r1,r2,r3,r4,r5,r6,r7⟩:=K4R.out
     obtain ⟨l0,l1,l2,l3,l4,l5,l6,l7⟩:=K4.out.2.2.1
     obtain ⟨u1,u2,u3,u4,u5⟩:=K4.out
     have u6:=K4R.out
     go_wp2
     exact ⟨⟨96+s,t0,t1,t2,(t3+2 ^ s),X - b,by omega,p0,q0,p1,q1,p2,q2,(by omega),y1,y2,⟨i0 - 1,by have:=HB.out;omega,rfl⟩,(by repeat' (first | (with_reducible exact Below.refl _ _) | (with_reducible assumption) | (with_reducible refine bdrewN _ ?_) | (with_reducible refine Below.alloc ?_ ?_ _) | (with_reducible refine Below.setCell ?_ ?_ _) | (with_reducible refine Below.drew ?_) | go_size | (simp;omega))),by simp;omega,(u1.other4 (by omega)).other (by omega),(u2.other4 (by omega)).other (by omega),(u3.other4 (by omega)).set3 _,(u6.four _ _ _ _).other (by omega),(u4.other4 (by omega)).other (by omega),(u5.other4 (by omega)).other (by omega)⟩,by simp [intOf];omega⟩
    ·have hc0:(0≤c)=False:=by simp;rw [← ec.out];unfold cmpI;split<;>(try split)<;>omega
     have hc1:c<0:=by simpa using hc0
     have y2:=st2 (by omega)
     clear st1 st2
     go_wp2_with fail
     refine (rcompare_any X b _ hX0 hX1 (by omega) (by omega)).mono ?_
     rintro e w3 ⟨rfl,hb3⟩
     rw [ec.out]
     obtain ⟨u1,u2,u3,u4,u5⟩:=K2.out
     have u6:=KR.out
     have hH:W2.drew.heap.size=W2.heap.size:=rfl
     rw [hH] at hb3
     have hb4:Below W2.heap.size W2 w3:=⟨hb3.os,hb3.tape,hb3.output,hb3.size,hb3.block⟩
     have hB3:=hB2.trans (hb4.mono hB2.size)
     have hs3:=hb4.size
     go_wp2
     exact ⟨⟨96+s,t0,t1,t2,t3,X,by omega,p0,q0,p1,q1,p2,q2,p3,q3,y2,⟨i0 - 1,by have:=HB.out;omega,rfl⟩,hB3,by omega,u1.below hb4 (by omega),u2.below hb4 (by omega),u3.below hb4 (by omega),u6.below hb4 (by omega),u4.below hb4 (by omega),u5.below hb4 (by omega)⟩,by simp [intOf];omega⟩
theorem eq_dig (w:World) (x0 x1 x2 x3 y0 y1 y2 y3:Int):
  Sem.run Tryz.prog (Op.equalIn 9999 190 (.agg #[.int .u64 x0,.int .u64 x1,.int .u64 x2,.int .u64 x3]) (.agg #[.int .u64 y0,.int .u64 y1,.int .u64 y2,.int .u64 y3])) w=.ok (x0==y0 && (x1==y1 && (x2==y2 && x3==y3))) w:=by
 have hp:Tryz.prog.plainKey 189=true:=by kernel_rfl
 have hc:Tryz.prog.cellsOf 189=1:=by kernel_rfl
 obtain ⟨i,hi⟩:∃ i,Tryz.prog.info? 189=some i:=⟨_,rfl⟩
 have P0:∀ (xs:Array Value) (o:Nat) (a:Value),xs[o]? =some a→(part 189 xs o).run Tryz.prog w=.ok a w:=fun xs o a h=>run_part_plain w hp h
 have E0:∀ a b:Int,(Op.equalIn 9998 189 (.int .u64 a) (.int .u64 b)).run Tryz.prog w=.ok (a==b) w:=fun a b=>run_equalIn_int w 9997 _ _ _ a b Tryz.underlying189
 rw [run_equalIn_array w 9998 _ _ Tryz.underlying190 hi,hc]
 simp only [show List.range 4=[0,1,2,3] from rfl,Op.eqItems,Sem.run_bind,Nat.mul_one]
 rw [P0 _ 0 (.int .u64 x0) rfl,Result.andThen_ok,P0 _ 0 (.int .u64 y0) rfl,Result.andThen_ok,E0,Result.andThen_ok]
 by_cases h0:x0=y0
 ·by_cases h1:x1=y1
  ·by_cases h2:x2=y2
   ·by_cases h3:x3=y3
    ·simp [h0,h1,h2,h3,P0,E0]
    ·simp [h0,h1,h2,h3,P0,E0]
   ·simp [h0,h1,h2,P0,E0]
  ·simp [h0,h1,P0,E0]
 ·simp [h0]
theorem eq_digT (w:World) (x0 x1 x2 x3:Int):
  Sem.run Tryz.prog (Op.equalIn 9999 190 (.agg #[.int .u64 x0,.int .u64 x1,.int .u64 x2,.int .u64 x3]) (.agg #[.int .u64 x0,.int .u64 x1,.int .u64 x2,.int .u64 x3])) w=.ok true w:=by
 rw [eq_dig];simp
theorem eq_digF (w:World) (x0 x1 x2 x3 y0 y1 y2 y3:Int) (h:¬ (x0=y0∧x1=y1∧x2=y2∧x3=y3)):
  Sem.run Tryz.prog (Op.equalIn 9999 190 (.agg #[.int .u64 x0,.int .u64 x1,.int .u64 x2,.int .u64 x3]) (.agg #[.int .u64 y0,.int .u64 y1,.int .u64 y2,.int .u64 y3])) w=.ok false w:=by
 rw [eq_dig]
 have:(x0==y0 && (x1==y1 && (x2==y2 && x3==y3)))=false:=by simpa using h
 rw [this]
def cellI (W:World) (B o:Nat):Int:=match W.cell? ⟨B,o,none⟩ with | some v=>intOf v | none=>0
def bigAt (W:World) (B:Nat):Nat:=(cellI W B 0+cellI W B 1*4294967296+cellI W B 2*18446744073709551616+cellI W B 3*79228162514264337593543950336).toNat
theorem Blk.big {W:World} {B:Nat} {x:Int} (h:Blk W B (g0 x) (g1 x) (g2 x) (g3 x)) (h0:0≤x) (h1:x<340282366920938463463374607431768211456):bigAt W B=x.toNat:=by
 obtain ⟨c0,c1,c2,c3, -, -, -, -⟩:=h
 have e:=g_sum x h0 h1
 simp only [bigAt,cellI,c0,c1,c2,c3,intOf]
 rw [← e]
theorem g_zero:g0 0=0∧g1 0=0∧g2 0=0∧g3 0=0:=by decide
theorem g_pos (x:Int) (h0:0≤x) (h1:x<340282366920938463463374607431768211456) (h:x≠0):¬ (g0 x=0∧g1 x=0∧g2 x=0∧g3 x=0):=by
 unfold g0 g1 g2 g3;omega
theorem Blk.fresh {W:World} {T:TypeId} {x0 x1 x2 x3:Int}:Blk (W.alloc (.cells #[.int .u64 x0,.int .u64 x1,.int .u64 x2,.int .u64 x3] T)) W.heap.size x0 x1 x2 x3:=by
 constructor<;>simp (maxDischargeDepth:=12) [go_sem]
theorem Blk.alloc {W:World} {B:Nat} {O:Obj} {x0 x1 x2 x3:Int} (h:Blk W B x0 x1 x2 x3) (hB:B<W.heap.size):Blk (W.alloc O) B x0 x1 x2 x3:=
 h.below (n:=W.heap.size) ⟨rfl,rfl,rfl,by simp,fun k hk=>Below.heap_alloc _ _ _ (by omega)⟩ hB
theorem rcommon_any (a b:Int) (w:World) (ha:0≤a) (ha':a<340282366920938463463374607431768211456) (hb:0≤b) (hb':b≤170141183460469231731687303715884105728):
  Calls Tryz.prog 170 #[.agg #[.int .u64 (g0 a),.int .u64 (g1 a),.int .u64 (g2 a),.int .u64 (g3 a)],.agg #[.int .u64 (g0 b),.int .u64 (g1 b),.int .u64 (g2 b),.int .u64 (g3 b)]] w fun e w'=>e=.returned (.agg #[.int .u64 (g0 (gc a b)),.int .u64 (g1 (gc a b)),.int .u64 (g2 (gc a b)),.int .u64 (g3 (gc a b))])∧Below w.heap.size w w':=by
 go_enter Tryz.func170,Tryz.ntmps170
 go_wp2
 go_loopw [9] (fun _ wr=>∃ x y:Int,0≤x∧x<340282366920938463463374607431768211456∧0≤y∧y≤170141183460469231731687303715884105728∧Hid (gc x y=gc a b)∧Below w.heap.size w wr∧w.heap.size+1+1+1<wr.heap.size∧Blk wr (w.heap.size) (g0 (x)) (g1 (x)) (g2 (x)) (g3 (x))∧Blk wr (w.heap.size+1) (g0 (y)) (g1 (y)) (g2 (y)) (g3 (y))∧Blk wr (w.heap.size+1+1) (0) (0) (0) (0)∧Blk wr (w.heap.size+1+1+1) (0) (0) (0) (0)) (fun _ wr=>bigAt wr (w.heap.size+1))
 case atStart=>
  refine ⟨a,b,ha,ha',hb,hb',rfl,by go_grown,by go_size, ?_, ?_, ?_, ?_⟩
  all_goals (constructor<;>simp (maxDischargeDepth:=12) [go_sem])
 case round=>
  obtain ⟨x,y,hx,hx',hy,hy',hg,hBw,hsz,kX,kY,kO,kN⟩:=hrel
  by_cases hy0:y=0
  ·subst hy0
   have hgx:Hid (gc a b=x):=by rw [← hg.out];exact gc_zero x hx
   clear hg
   obtain ⟨c0,c1,c2,c3, -, -, -, -⟩:=kY
   rw [g_zero.1] at c0
   rw [g_zero.2.1] at c1
   rw [g_zero.2.2.1] at c2
   rw [g_zero.2.2.2] at c3
   obtain ⟨n0,n1,n2,n3, -, -, -, -⟩:=kN
   have kO':=kO
   obtain ⟨o0,o1,o2,o3,o4,o5,o6,o7⟩:=kO
   obtain ⟨x0,x1,x2,x3, -, -, -, -⟩:=kX
   have he:=eq_digT wr 0 0 0 0
   go_wp2
   have hB9:Below w.heap.size w ((((wr.setCell ⟨w.heap.size+1+1,0,none⟩ (.int .u64 (g0 x))).setCell ⟨w.heap.size+1+1,1,none⟩ (.int .u64 (g1 x))).setCell ⟨w.heap.size+1+1,2,none⟩ (.int .u64 (g2 x))).setCell ⟨w.heap.size+1+1,3,none⟩ (.int .u64 (g3 x))):=(by repeat' (first | (with_reducible exact Below.refl _ _) | (with_reducible assumption) | (with_reducible refine bdrewN _ ?_) | (with_reducible refine Below.alloc ?_ ?_ _) | (with_reducible refine Below.setCell ?_ ?_ _) | (with_reducible refine Below.drew ?_) | go_size | (simp;omega)))
   have kO2:=kO'.four (g0 x) (g1 x) (g2 x) (g3 x)
   generalize World.setCell _ _ _=W9 at hB9 kO2 ⊢
   obtain ⟨v0,v1,v2,v3, -, -, -, -⟩:=kO2
   refine bodyPost_ret (by simp [results,Tryz.results170,go_sem,v0,v1,v2,v3];try rfl) rfl ?_
   exact ⟨ret_big (by rw [hgx.out]) (by rw [hgx.out]) (by rw [hgx.out]) (by rw [hgx.out]),hB9⟩
  ·have hd:=g_pos y hy (by omega) hy0
   have he:=eq_digF wr _ _ _ _ 0 0 0 0 hd
   clear hd
   have kX':Hid (Blk wr (w.heap.size) (g0 x) (g1 x) (g2 x) (g3 x)):=kX
   have kY':Hid (Blk wr (w.heap.size+1) (g0 y) (g1 y) (g2 y) (g3 y)):=kY
   have kO':Hid (Blk wr (w.heap.size+1+1) 0 0 0 0):=kO
   have kN':Hid (Blk wr (w.heap.size+1+1+1) 0 0 0 0):=kN
   clear kO
   obtain ⟨x0,x1,x2,x3, -, -, -, -⟩:=kX
   obtain ⟨y0,y1,y2,y3, -, -, -, -⟩:=kY
   obtain ⟨n0,n1,n2,n3, -, -, -, -⟩:=kN
   go_wp2_with fail
   refine (rdiv_any x y _ hx hx' (by omega) hy').mono ?_
   rintro e w1 ⟨rfl,hb1⟩
   have hs1:=hb1.size
   have u0:=kX'.out.below hb1 (by omega)
   have u1:=kY'.out.below hb1 (by omega)
   have u2:=kO'.out.below hb1 (by omega)
   have u3:=kN'.out.below hb1 (by omega)
   have hB1:=hBw.trans (hb1.mono hBw.size)
   have hsz1:w.heap.size+1+1+1<w1.heap.size:=by omega
   have U:Hid (Blk w1 (w.heap.size) (g0 x) (g1 x) (g2 x) (g3 x)∧Blk w1 (w.heap.size+1) (g0 y) (g1 y) (g2 y) (g3 y)∧Blk w1 (w.heap.size+1+1) 0 0 0 0∧Blk w1 (w.heap.size+1+1+1) 0 0 0 0):=⟨u0,u1,u2,u3⟩
   clear u2 u3 kX' hb1 hs1 hBw hsz x0 x1 x2 x3 y0 y1 y2 y3 n0 n1 n2 n3 he
   clear u0 u1
   go_upto_region 4 with fail
   refine wp_world ?_
   intro W1 hW1
   obtain ⟨u0,u1,u2,u3⟩:=U.out
   have v0:Blk W1 (w.heap.size) (g0 x) (g1 x) (g2 x) (g3 x):=by rw [hW1];exact (u0.alloc (by omega)).alloc (by simp;omega)
   have v1:Blk W1 (w.heap.size+1) (g0 y) (g1 y) (g2 y) (g3 y):=by rw [hW1];exact (u1.alloc (by omega)).alloc (by simp;omega)
   have v2:Blk W1 (w.heap.size+1+1) 0 0 0 0:=by rw [hW1];exact (u2.alloc (by omega)).alloc (by simp;omega)
   have v3:Blk W1 (w.heap.size+1+1+1) 0 0 0 0:=by rw [hW1];exact (u3.alloc (by omega)).alloc (by simp;omega)
   have v4:Blk W1 (w1.heap.size+1) (g0 (x % y)) (g1 (x % y)) (g2 (x % y)) (g3 (x % y)):=by
    rw [hW1];have:=Blk.fresh (W:=w1.alloc (.cells #[.int .u64 (g0 (x / y)),.int .u64 (g1 (x / y)),.int .u64 (g2 (x / y)),.int .u64 (g3 (x / y))] 192)) (T:=192) (x0:=g0 (x % y)) (x1:=g1 (x % y)) (x2:=g2 (x % y)) (x3:=g3 (x % y))
    simpa using this
   have hB2:Below w.heap.size w W1:=by rw [hW1];exact (by repeat' (first | (with_reducible exact Below.refl _ _) | (with_reducible assumption) | (with_reducible refine bdrewN _ ?_) | (with_reducible refine Below.alloc ?_ ?_ _) | (with_reducible refine Below.setCell ?_ ?_ _) | (with_reducible refine Below.drew ?_) | go_size | (simp;omega)))
   have hs2:w.heap.size+1+1+1<W1.heap.size:=by rw [hW1];simp;omega
   clear hW1 u0 u1 u2 u3 U hB1
   have V:Hid (Blk W1 (w.heap.size) (g0 x) (g1 x) (g2 x) (g3 x)∧Blk W1 (w.heap.size+1) (g0 y) (g1 y) (g2 y) (g3 y)∧Blk W1 (w.heap.size+1+1) 0 0 0 0∧Blk W1 (w.heap.size+1+1+1) 0 0 0 0):=⟨v0,v1,v2,v3⟩
   clear v2 v3
   have hne1:w1.heap.size+1≠w.heap.size:=by omega
   have hne2:w1.heap.size+1≠w.heap.size+1:=by omega
   obtain ⟨x0,x1,x2,x3,x4,x5,x6,x7⟩:=v0
   obtain ⟨y0,y1,y2,y3,y4,y5,y6,y7⟩:=v1
   obtain ⟨r0,r1,r2,r3, -, -, -, -⟩:=v4
   go_wp2
   obtain ⟨u0,u1,u2,u3⟩:=V.out
   have m0:=Int.emod_nonneg x hy0
   have m1:=Int.emod_lt_of_pos x (show 0<y by omega)
   refine ⟨⟨y,x % y,hy,by omega,m0,by omega,(gc_step x y hx (by omega)).trans hg.out,(by repeat' (first | (with_reducible exact Below.refl _ _) | (with_reducible assumption) | (with_reducible refine bdrewN _ ?_) | (with_reducible refine Below.alloc ?_ ?_ _) | (with_reducible refine Below.setCell ?_ ?_ _) | (with_reducible refine Below.drew ?_) | go_size | (simp;omega))),by simp;omega, ?_, ?_, ?_, ?_⟩, ?_⟩
   ·exact (u0.four _ _ _ _).other4 (by omega)
   ·exact (u1.other4 (B:=w.heap.size) (by omega)).four _ _ _ _
   ·exact (u2.other4 (by omega)).other4 (by omega)
   ·exact (u3.other4 (by omega)).other4 (by omega)
   refine Nat.lt_of_le_of_lt (Nat.le_of_eq (Blk.big (x:=x % y) ((u1.other4 (B:=w.heap.size) (by omega)).four _ _ _ _) m0 (by omega))) ?_
   rw [kY'.out.big hy (by omega)]
   omega
structure Blk2 (W:World) (B:Nat) (v0 v1:Int):Prop where
 c0:W.cell? ⟨B,0,none⟩=some (.int .i64 v0)
 c1:W.cell? ⟨B,1,none⟩=some (.int .i64 v1)
 f0:W.frozen? ⟨B,0,none⟩=false
 f1:W.frozen? ⟨B,1,none⟩=false
theorem Blk2.below {W W':World} {B n:Nat} {v0 v1:Int} (h:Blk2 W B v0 v1) (hb:Below n W W') (hB:B<n):Blk2 W' B v0 v1:=
 ⟨(hb.cell (p:=⟨B,0,none⟩) hB).trans h.c0,(hb.cell (p:=⟨B,1,none⟩) hB).trans h.c1,(hb.frozen (p:=⟨B,0,none⟩) hB).trans h.f0,(hb.frozen (p:=⟨B,1,none⟩) hB).trans h.f1⟩
theorem Blk2.two {W:World} {B:Nat} {v0 v1:Int} (h:Blk2 W B v0 v1) (x0 x1:Int):Blk2 ((W.setCell ⟨B,0,none⟩ (.int .i64 x0)).setCell ⟨B,1,none⟩ (.int .i64 x1)) B x0 x1:=by
 obtain ⟨c0,c1,f0,f1⟩:=h
 constructor<;>simp (maxDischargeDepth:=12) [go_sem,c0,c1,f0,f1]
theorem gc_part (n d:Int) (hn:0≤n) (hd:0<d):0<gc n d∧gc n d≤d∧0≤n / gc n d∧n / gc n d≤n∧0<d / gc n d∧d / gc n d≤d∧(0<n→0<n / gc n d):=by
 have h1:=gc_pos n d hd
 have h2:=gc_le n d hd
 have pos:∀ m,0<m→gc n d∣m→0<m / gc n d:=by
  intro m hm hk
  obtain ⟨c,hc⟩:=hk
  have hc0:0<c:=by
   rcases Int.lt_or_le 0 c with h | h
   ·exact h
   ·have:=Int.mul_le_mul_of_nonneg_left h (Int.le_of_lt h1);omega
  have e:m / gc n d=c:=by
   have:m / gc n d=gc n d*c / gc n d:=congrArg (·/ gc n d) hc
   rw [this,Int.mul_ediv_cancel_left _ (by omega)]
  omega
 exact ⟨h1,h2,Int.ediv_nonneg hn (by omega),div_le_self n _ hn h1,pos d hd (gc_dvd_right n d (by omega)),div_le_self d _ (by omega) h1,fun h=>pos n h (gc_dvd_left n d hn)⟩
theorem low64 (x:Int) (h0:0≤x) (h1:x≤18446744073709551615):g1 x*4294967296+g0 x=x:=by unfold g0 g1;omega
theorem rmade_raw (b:Bool) (n d G P Q c1 c2 N D E:Int) (w:World) (hn:0≤n) (hn':n≤170141183460469231731687303715884105728) (hd:0<d) (hd':d≤170141183460469231731687303715884105728)
  (eG:Hid (gc n d=G)) (eP:Hid (n / G=P)) (eQ:Hid (d / G=Q)) (hG:0<G) (hG':G≤d) (hP:0≤P) (hP':P≤n) (hQ:0<Q) (hQ':Q≤d) (e1:Hid (cmpI P 9223372036854775808=c1)) (e2:Hid (cmpI Q 9223372036854775808=c2))
  (hcase:(0≤c2∧N=0∧D=0∧E=10)∨(c2<0∧0<c1∧N=0∧D=0∧E=10)∨(c2<0∧c1=0∧b=false∧N=0∧D=0∧E=10)∨(c2<0∧c1=0∧b=true∧0<P∧P≤9223372036854775808∧Q<9223372036854775808∧N= -P∧D=Q∧E=0)∨(c2<0∧c1<0∧b=false∧P<9223372036854775808∧Q<9223372036854775808∧N=P∧D=Q∧E=0)∨(c2<0∧c1<0∧b=true∧0<P∧P<9223372036854775808∧Q<9223372036854775808∧N= -P∧D=Q∧E=0)):
  Calls Tryz.prog 161 #[.bool b,.agg #[.int .u64 (g0 n),.int .u64 (g1 n),.int .u64 (g2 n),.int .u64 (g3 n)],.agg #[.int .u64 (g0 d),.int .u64 (g1 d),.int .u64 (g2 d),.int .u64 (g3 d)]] w fun e w'=>e=.returned (.tuple #[.agg #[.int .i64 N,.int .i64 D],.int .i64 E])∧Below w.heap.size w w':=by
 go_enter Tryz.func161,Tryz.ntmps161
 go_upto_region 1 with fail
 refine wp_world ?_
 intro W0 hW0
 have hs0:w.heap.size+1+1<W0.heap.size:=by rw [hW0];simp
 have bN:Blk W0 (w.heap.size) (g0 (n)) (g1 (n)) (g2 (n)) (g3 (n)):=by rw [hW0];constructor<;>simp (maxDischargeDepth:=12) [go_sem]
 have bD:Blk W0 (w.heap.size+1) (g0 (d)) (g1 (d)) (g2 (d)) (g3 (d)):=by rw [hW0];constructor<;>simp (maxDischargeDepth:=12) [go_sem]
 have bR:Blk2 W0 (w.heap.size+1+1) 0 0:=by rw [hW0];constructor<;>simp (maxDischargeDepth:=12) [go_sem]
 have hB0:Below w.heap.size w W0:=by rw [hW0];exact (by repeat' (first | (with_reducible exact Below.refl _ _) | (with_reducible assumption) | (with_reducible refine bdrewN _ ?_) | (with_reducible refine Below.alloc ?_ ?_ _) | (with_reducible refine Below.setCell ?_ ?_ _) | (with_reducible refine Below.drew ?_) | go_size | (simp;omega)))
 clear hW0
 have HbN:Hid (Blk W0 (w.heap.size) (g0 (n)) (g1 (n)) (g2 (n)) (g3 (n))):=bN
 have HbD:Hid (Blk W0 (w.heap.size+1) (g0 (d)) (g1 (d)) (g2 (d)) (g3 (d))):=bD
 have HbR:Hid (Blk2 W0 (w.heap.size+1+1) (0) (0)):=bR
 clear bN bD bR
 obtain ⟨bD_0,bD_1,bD_2,bD_3, -, -, -, -⟩:=HbD.out
 obtain ⟨bN_0,bN_1,bN_2,bN_3, -, -, -, -⟩:=HbN.out
 go_wp2_with fail
 refine (rcommon_any n d _ hn (by omega) (by omega) hd').mono ?_
 rintro e w1 ⟨rfl,hb1⟩
 have hz1:=hb1.size
 clear bD_0 bD_1 bD_2 bD_3
 clear bN_0 bN_1 bN_2 bN_3
 rw [eG.out]
 go_upto_region 2 with fail
 refine wp_world ?_
 intro W1 hW1
 have hst1:Below W0.heap.size W0 W1:=by rw [hW1];exact (by repeat' (first | (with_reducible exact Below.refl _ _) | (with_reducible assumption) | (with_reducible refine bdrewN _ ?_) | (with_reducible refine Below.alloc ?_ ?_ _) | (with_reducible refine Below.setCell ?_ ?_ _) | (with_reducible refine Below.drew ?_) | go_size | (simp;omega)))
 have hB1:Below w.heap.size w W1:=hB0.trans (hst1.mono hB0.size)
 have hs1:w.heap.size+1+1<W1.heap.size:=by have:=hst1.size;omega
 have bN:Blk W1 (w.heap.size) (g0 (n)) (g1 (n)) (g2 (n)) (g3 (n)):=HbN.out.below hst1 (by omega)
 have bD:Blk W1 (w.heap.size+1) (g0 (d)) (g1 (d)) (g2 (d)) (g3 (d)):=HbD.out.below hst1 (by omega)
 have bR:Blk2 W1 (w.heap.size+1+1) (0) (0):=HbR.out.below hst1 (by omega)
 have bG:Blk W1 (w1.heap.size) (g0 (G)) (g1 (G)) (g2 (G)) (g3 (G)):=by rw [hW1];constructor<;>simp (maxDischargeDepth:=12) [go_sem]
 have hl_bG:w1.heap.size<W1.heap.size:=by rw [hW1];first | (simp;done) | (simp;omega)
 clear hW1 hst1 hb1 hB0 hs0 hz1 HbN HbD HbR
 have HbN:Hid (Blk W1 (w.heap.size) (g0 (n)) (g1 (n)) (g2 (n)) (g3 (n))):=bN
 have HbD:Hid (Blk W1 (w.heap.size+1) (g0 (d)) (g1 (d)) (g2 (d)) (g3 (d))):=bD
 have HbR:Hid (Blk2 W1 (w.heap.size+1+1) (0) (0)):=bR
 have HbG:Hid (Blk W1 (w1.heap.size) (g0 (G)) (g1 (G)) (g2 (G)) (g3 (G))):=bG
 clear bN bD bR bG
 obtain ⟨bG_0,bG_1,bG_2,bG_3, -, -, -, -⟩:=HbG.out
 obtain ⟨bN_0,bN_1,bN_2,bN_3, -, -, -, -⟩:=HbN.out
 go_wp2_with fail
 refine (rdiv_any n G _ hn (by omega) hG (by omega)).mono ?_
 rintro e w2 ⟨rfl,hb2⟩
 have hz2:=hb2.size
 clear bG_0 bG_1 bG_2 bG_3
 clear bN_0 bN_1 bN_2 bN_3
 rw [eP.out]
 go_upto_region 3 with fail
 refine wp_world ?_
 intro W2 hW2
 have hst2:Below W1.heap.size W1 W2:=by rw [hW2];exact (by repeat' (first | (with_reducible exact Below.refl _ _) | (with_reducible assumption) | (with_reducible refine bdrewN _ ?_) | (with_reducible refine Below.alloc ?_ ?_ _) | (with_reducible refine Below.setCell ?_ ?_ _) | (with_reducible refine Below.drew ?_) | go_size | (simp;omega)))
 have hB2:Below w.heap.size w W2:=hB1.trans (hst2.mono hB1.size)
 have hs2:w.heap.size+1+1<W2.heap.size:=by have:=hst2.size;omega
 have bN:Blk W2 (w.heap.size) (g0 (n)) (g1 (n)) (g2 (n)) (g3 (n)):=HbN.out.below hst2 (by omega)
 have bD:Blk W2 (w.heap.size+1) (g0 (d)) (g1 (d)) (g2 (d)) (g3 (d)):=HbD.out.below hst2 (by omega)
 have bR:Blk2 W2 (w.heap.size+1+1) (0) (0):=HbR.out.below hst2 (by omega)
 have bG:Blk W2 (w1.heap.size) (g0 (G)) (g1 (G)) (g2 (G)) (g3 (G)):=HbG.out.below hst2 (by omega)
 have bP:Blk W2 (w2.heap.size) (g0 (P)) (g1 (P)) (g2 (P)) (g3 (P)):=by rw [hW2];constructor<;>simp (maxDischargeDepth:=12) [go_sem]
 have hl_bP:w2.heap.size<W2.heap.size:=by rw [hW2];first | (simp;done) | (simp;omega)
 have bX:Blk W2 (w2.heap.size+1) (g0 (n % G)) (g1 (n % G)) (g2 (n % G)) (g3 (n % G)):=by rw [hW2];constructor<;>simp (maxDischargeDepth:=12) [go_sem]
 have hl_bX:w2.heap.size+1<W2.heap.size:=by rw [hW2];first | (simp;done) | (simp;omega)
 have hl_bG:w1.heap.size<W2.heap.size:=by have:=hst2.size;omega
 clear hW2 hst2 hb2 hB1 hs1 hz2 HbN HbD HbR HbG
 have HbN:Hid (Blk W2 (w.heap.size) (g0 (n)) (g1 (n)) (g2 (n)) (g3 (n))):=bN
 have HbD:Hid (Blk W2 (w.heap.size+1) (g0 (d)) (g1 (d)) (g2 (d)) (g3 (d))):=bD
 have HbR:Hid (Blk2 W2 (w.heap.size+1+1) (0) (0)):=bR
 have HbG:Hid (Blk W2 (w1.heap.size) (g0 (G)) (g1 (G)) (g2 (G)) (g3 (G))):=bG
 have HbP:Hid (Blk W2 (w2.heap.size) (g0 (P)) (g1 (P)) (g2 (P)) (g3 (P))):=bP
 have HbX:Hid (Blk W2 (w2.heap.size+1) (g0 (n % G)) (g1 (n % G)) (g2 (n % G)) (g3 (n % G))):=bX
 clear bN bD bR bG bP bX
 obtain ⟨bD_0,bD_1,bD_2,bD_3, -, -, -, -⟩:=HbD.out
 obtain ⟨bG_0,bG_1,bG_2,bG_3, -, -, -, -⟩:=HbG.out
 go_wp2_with fail
 refine (rdiv_any d G _ (by omega) (by omega) hG (by omega)).mono ?_
 rintro e w3 ⟨rfl,hb3⟩
 have hz3:=hb3.size
 clear bD_0 bD_1 bD_2 bD_3
 clear bG_0 bG_1 bG_2 bG_3
 rw [eQ.out]
 go_upto_region 4 with fail
 refine wp_world ?_
 intro W3 hW3
 have hst3:Below W2.heap.size W2 W3:=by rw [hW3];exact (by repeat' (first | (with_reducible exact Below.refl _ _) | (with_reducible assumption) | (with_reducible refine bdrewN _ ?_) | (with_reducible refine Below.alloc ?_ ?_ _) | (with_reducible refine Below.setCell ?_ ?_ _) | (with_reducible refine Below.drew ?_) | go_size | (simp;omega)))
 have hB3:Below w.heap.size w W3:=hB2.trans (hst3.mono hB2.size)
 have hs3:w.heap.size+1+1<W3.heap.size:=by have:=hst3.size;omega
 have bN:Blk W3 (w.heap.size) (g0 (n)) (g1 (n)) (g2 (n)) (g3 (n)):=HbN.out.below hst3 (by omega)
 have bD:Blk W3 (w.heap.size+1) (g0 (d)) (g1 (d)) (g2 (d)) (g3 (d)):=HbD.out.below hst3 (by omega)
 have bR:Blk2 W3 (w.heap.size+1+1) (0) (0):=HbR.out.below hst3 (by omega)
 have bG:Blk W3 (w1.heap.size) (g0 (G)) (g1 (G)) (g2 (G)) (g3 (G)):=HbG.out.below hst3 (by omega)
 have bP:Blk W3 (w2.heap.size) (g0 (P)) (g1 (P)) (g2 (P)) (g3 (P)):=HbP.out.below hst3 (by omega)
 have bX:Blk W3 (w2.heap.size+1) (g0 (n % G)) (g1 (n % G)) (g2 (n % G)) (g3 (n % G)):=HbX.out.below hst3 (by omega)
 have bQ:Blk W3 (w3.heap.size) (g0 (Q)) (g1 (Q)) (g2 (Q)) (g3 (Q)):=by rw [hW3];constructor<;>simp (maxDischargeDepth:=12) [go_sem]
 have hl_bQ:w3.heap.size<W3.heap.size:=by rw [hW3];first | (simp;done) | (simp;omega)
 have bY:Blk W3 (w3.heap.size+1) (g0 (d % G)) (g1 (d % G)) (g2 (d % G)) (g3 (d % G)):=by rw [hW3];constructor<;>simp (maxDischargeDepth:=12) [go_sem]
 have hl_bY:w3.heap.size+1<W3.heap.size:=by rw [hW3];first | (simp;done) | (simp;omega)
 have hl_bG:w1.heap.size<W3.heap.size:=by have:=hst3.size;omega
 have hl_bP:w2.heap.size<W3.heap.size:=by have:=hst3.size;omega
 have hl_bX:w2.heap.size+1<W3.heap.size:=by have:=hst3.size;omega
 clear hW3 hst3 hb3 hB2 hs2 hz3 HbN HbD HbR HbG HbP HbX
 have HbN:Hid (Blk W3 (w.heap.size) (g0 (n)) (g1 (n)) (g2 (n)) (g3 (n))):=bN
 have HbD:Hid (Blk W3 (w.heap.size+1) (g0 (d)) (g1 (d)) (g2 (d)) (g3 (d))):=bD
 have HbR:Hid (Blk2 W3 (w.heap.size+1+1) (0) (0)):=bR
 have HbG:Hid (Blk W3 (w1.heap.size) (g0 (G)) (g1 (G)) (g2 (G)) (g3 (G))):=bG
 have HbP:Hid (Blk W3 (w2.heap.size) (g0 (P)) (g1 (P)) (g2 (P)) (g3 (P))):=bP
 have HbX:Hid (Blk W3 (w2.heap.size+1) (g0 (n % G)) (g1 (n % G)) (g2 (n % G)) (g3 (n % G))):=bX
 have HbQ:Hid (Blk W3 (w3.heap.size) (g0 (Q)) (g1 (Q)) (g2 (Q)) (g3 (Q))):=bQ
 have HbY:Hid (Blk W3 (w3.heap.size+1) (g0 (d % G)) (g1 (d % G)) (g2 (d % G)) (g3 (d % G))):=bY
 clear bN bD bR bG bP bX bQ bY
 go_wp2_with fail
 refine (rof_any 9223372036854775808 _ (by omega) (by omega)).mono ?_
 rintro e w4 ⟨rfl,hb4⟩
 have hz4:=hb4.size
 go_upto_region 5 with fail
 refine wp_world ?_
 intro W4 hW4
 have hst4:Below W3.heap.size W3 W4:=by rw [hW4];exact (by repeat' (first | (with_reducible exact Below.refl _ _) | (with_reducible assumption) | (with_reducible refine bdrewN _ ?_) | (with_reducible refine Below.alloc ?_ ?_ _) | (with_reducible refine Below.setCell ?_ ?_ _) | (with_reducible refine Below.drew ?_) | go_size | (simp;omega)))
 have hB4:Below w.heap.size w W4:=hB3.trans (hst4.mono hB3.size)
 have hs4:w.heap.size+1+1<W4.heap.size:=by have:=hst4.size;omega
 have bN:Blk W4 (w.heap.size) (g0 (n)) (g1 (n)) (g2 (n)) (g3 (n)):=HbN.out.below hst4 (by omega)
 have bD:Blk W4 (w.heap.size+1) (g0 (d)) (g1 (d)) (g2 (d)) (g3 (d)):=HbD.out.below hst4 (by omega)
 have bR:Blk2 W4 (w.heap.size+1+1) (0) (0):=HbR.out.below hst4 (by omega)
 have bG:Blk W4 (w1.heap.size) (g0 (G)) (g1 (G)) (g2 (G)) (g3 (G)):=HbG.out.below hst4 (by omega)
 have bP:Blk W4 (w2.heap.size) (g0 (P)) (g1 (P)) (g2 (P)) (g3 (P)):=HbP.out.below hst4 (by omega)
 have bX:Blk W4 (w2.heap.size+1) (g0 (n % G)) (g1 (n % G)) (g2 (n % G)) (g3 (n % G)):=HbX.out.below hst4 (by omega)
 have bQ:Blk W4 (w3.heap.size) (g0 (Q)) (g1 (Q)) (g2 (Q)) (g3 (Q)):=HbQ.out.below hst4 (by omega)
 have bY:Blk W4 (w3.heap.size+1) (g0 (d % G)) (g1 (d % G)) (g2 (d % G)) (g3 (d % G)):=HbY.out.below hst4 (by omega)
 have bM:Blk W4 (w4.heap.size) (g0 (9223372036854775808)) (g1 (9223372036854775808)) (g2 (9223372036854775808)) (g3 (9223372036854775808)):=by rw [hW4];constructor<;>simp (maxDischargeDepth:=12) [go_sem]
 have hl_bM:w4.heap.size<W4.heap.size:=by rw [hW4];first | (simp;done) | (simp;omega)
 have hl_bG:w1.heap.size<W4.heap.size:=by have:=hst4.size;omega
 have hl_bP:w2.heap.size<W4.heap.size:=by have:=hst4.size;omega
 have hl_bX:w2.heap.size+1<W4.heap.size:=by have:=hst4.size;omega
 have hl_bQ:w3.heap.size<W4.heap.size:=by have:=hst4.size;omega
 have hl_bY:w3.heap.size+1<W4.heap.size:=by have:=hst4.size;omega
 clear hW4 hst4 hb4 hB3 hs3 hz4 HbN HbD HbR HbG HbP HbX HbQ HbY
 have HbN:Hid (Blk W4 (w.heap.size) (g0 (n)) (g1 (n)) (g2 (n)) (g3 (n))):=bN
 have HbD:Hid (Blk W4 (w.heap.size+1) (g0 (d)) (g1 (d)) (g2 (d)) (g3 (d))):=bD
 have HbR:Hid (Blk2 W4 (w.heap.size+1+1) (0) (0)):=bR
 have HbG:Hid (Blk W4 (w1.heap.size) (g0 (G)) (g1 (G)) (g2 (G)) (g3 (G))):=bG
 have HbP:Hid (Blk W4 (w2.heap.size) (g0 (P)) (g1 (P)) (g2 (P)) (g3 (P))):=bP
 have HbX:Hid (Blk W4 (w2.heap.size+1) (g0 (n % G)) (g1 (n % G)) (g2 (n % G)) (g3 (n % G))):=bX
 have HbQ:Hid (Blk W4 (w3.heap.size) (g0 (Q)) (g1 (Q)) (g2 (Q)) (g3 (Q))):=bQ
 have HbY:Hid (Blk W4 (w3.heap.size+1) (g0 (d % G)) (g1 (d % G)) (g2 (d % G)) (g3 (d % G))):=bY
 have HbM:Hid (Blk W4 (w4.heap.size) (g0 (9223372036854775808)) (g1 (9223372036854775808)) (g2 (9223372036854775808)) (g3 (9223372036854775808))):=bM
 clear bN bD bR bG bP bX bQ bY bM
 obtain ⟨bM_0,bM_1,bM_2,bM_3, -, -, -, -⟩:=HbM.out
 obtain ⟨bP_0,bP_1,bP_2,bP_3, -, -, -, -⟩:=HbP.out
 go_wp2_with fail
 refine (rcompare_any P 9223372036854775808 _ hP (by omega) (by omega) (by omega)).mono ?_
 rintro e w5 ⟨rfl,hb5⟩
 have hz5:=hb5.size
 clear bM_0 bM_1 bM_2 bM_3
 clear bP_0 bP_1 bP_2 bP_3
 rw [e1.out]
 go_upto_region 6 with fail
 refine wp_world ?_
 intro W5 hW5
 have hst5:Below W4.heap.size W4 W5:=by rw [hW5];exact (by repeat' (first | (with_reducible exact Below.refl _ _) | (with_reducible assumption) | (with_reducible refine bdrewN _ ?_) | (with_reducible refine Below.alloc ?_ ?_ _) | (with_reducible refine Below.setCell ?_ ?_ _) | (with_reducible refine Below.drew ?_) | go_size | (simp;omega)))
 have hB5:Below w.heap.size w W5:=hB4.trans (hst5.mono hB4.size)
 have hs5:w.heap.size+1+1<W5.heap.size:=by have:=hst5.size;omega
 have bN:Blk W5 (w.heap.size) (g0 (n)) (g1 (n)) (g2 (n)) (g3 (n)):=HbN.out.below hst5 (by omega)
 have bD:Blk W5 (w.heap.size+1) (g0 (d)) (g1 (d)) (g2 (d)) (g3 (d)):=HbD.out.below hst5 (by omega)
 have bR:Blk2 W5 (w.heap.size+1+1) (0) (0):=HbR.out.below hst5 (by omega)
 have bG:Blk W5 (w1.heap.size) (g0 (G)) (g1 (G)) (g2 (G)) (g3 (G)):=HbG.out.below hst5 (by omega)
 have bP:Blk W5 (w2.heap.size) (g0 (P)) (g1 (P)) (g2 (P)) (g3 (P)):=HbP.out.below hst5 (by omega)
 have bX:Blk W5 (w2.heap.size+1) (g0 (n % G)) (g1 (n % G)) (g2 (n % G)) (g3 (n % G)):=HbX.out.below hst5 (by omega)
 have bQ:Blk W5 (w3.heap.size) (g0 (Q)) (g1 (Q)) (g2 (Q)) (g3 (Q)):=HbQ.out.below hst5 (by omega)
 have bY:Blk W5 (w3.heap.size+1) (g0 (d % G)) (g1 (d % G)) (g2 (d % G)) (g3 (d % G)):=HbY.out.below hst5 (by omega)
 have bM:Blk W5 (w4.heap.size) (g0 (9223372036854775808)) (g1 (9223372036854775808)) (g2 (9223372036854775808)) (g3 (9223372036854775808)):=HbM.out.below hst5 (by omega)
 have hl_bG:w1.heap.size<W5.heap.size:=by have:=hst5.size;omega
 have hl_bP:w2.heap.size<W5.heap.size:=by have:=hst5.size;omega
 have hl_bX:w2.heap.size+1<W5.heap.size:=by have:=hst5.size;omega
 have hl_bQ:w3.heap.size<W5.heap.size:=by have:=hst5.size;omega
 have hl_bY:w3.heap.size+1<W5.heap.size:=by have:=hst5.size;omega
 have hl_bM:w4.heap.size<W5.heap.size:=by have:=hst5.size;omega
 clear hW5 hst5 hb5 hB4 hs4 hz5 HbN HbD HbR HbG HbP HbX HbQ HbY HbM
 have HbN:Hid (Blk W5 (w.heap.size) (g0 (n)) (g1 (n)) (g2 (n)) (g3 (n))):=bN
 have HbD:Hid (Blk W5 (w.heap.size+1) (g0 (d)) (g1 (d)) (g2 (d)) (g3 (d))):=bD
 have HbR:Hid (Blk2 W5 (w.heap.size+1+1) (0) (0)):=bR
 have HbG:Hid (Blk W5 (w1.heap.size) (g0 (G)) (g1 (G)) (g2 (G)) (g3 (G))):=bG
 have HbP:Hid (Blk W5 (w2.heap.size) (g0 (P)) (g1 (P)) (g2 (P)) (g3 (P))):=bP
 have HbX:Hid (Blk W5 (w2.heap.size+1) (g0 (n % G)) (g1 (n % G)) (g2 (n % G)) (g3 (n % G))):=bX
 have HbQ:Hid (Blk W5 (w3.heap.size) (g0 (Q)) (g1 (Q)) (g2 (Q)) (g3 (Q))):=bQ
 have HbY:Hid (Blk W5 (w3.heap.size+1) (g0 (d % G)) (g1 (d % G)) (g2 (d % G)) (g3 (d % G))):=bY
 have HbM:Hid (Blk W5 (w4.heap.size) (g0 (9223372036854775808)) (g1 (9223372036854775808)) (g2 (9223372036854775808)) (g3 (9223372036854775808))):=bM
 clear bN bD bR bG bP bX bQ bY bM
 obtain ⟨bM_0,bM_1,bM_2,bM_3, -, -, -, -⟩:=HbM.out
 obtain ⟨bQ_0,bQ_1,bQ_2,bQ_3, -, -, -, -⟩:=HbQ.out
 go_wp2_with fail
 refine (rcompare_any Q 9223372036854775808 _ (by omega) (by omega) (by omega) (by omega)).mono ?_
 rintro e w6 ⟨rfl,hb6⟩
 have hz6:=hb6.size
 clear bM_0 bM_1 bM_2 bM_3
 clear bQ_0 bQ_1 bQ_2 bQ_3
 rw [e2.out]
 go_upto_region 7 with fail
 refine wp_world ?_
 intro W6 hW6
 have hst6:Below W5.heap.size W5 W6:=by rw [hW6];exact (by repeat' (first | (with_reducible exact Below.refl _ _) | (with_reducible assumption) | (with_reducible refine bdrewN _ ?_) | (with_reducible refine Below.alloc ?_ ?_ _) | (with_reducible refine Below.setCell ?_ ?_ _) | (with_reducible refine Below.drew ?_) | go_size | (simp;omega)))
 have hB6:Below w.heap.size w W6:=hB5.trans (hst6.mono hB5.size)
 have hs6:w.heap.size+1+1<W6.heap.size:=by have:=hst6.size;omega
 have bN:Blk W6 (w.heap.size) (g0 (n)) (g1 (n)) (g2 (n)) (g3 (n)):=HbN.out.below hst6 (by omega)
 have bD:Blk W6 (w.heap.size+1) (g0 (d)) (g1 (d)) (g2 (d)) (g3 (d)):=HbD.out.below hst6 (by omega)
 have bR:Blk2 W6 (w.heap.size+1+1) (0) (0):=HbR.out.below hst6 (by omega)
 have bG:Blk W6 (w1.heap.size) (g0 (G)) (g1 (G)) (g2 (G)) (g3 (G)):=HbG.out.below hst6 (by omega)
 have bP:Blk W6 (w2.heap.size) (g0 (P)) (g1 (P)) (g2 (P)) (g3 (P)):=HbP.out.below hst6 (by omega)
 have bX:Blk W6 (w2.heap.size+1) (g0 (n % G)) (g1 (n % G)) (g2 (n % G)) (g3 (n % G)):=HbX.out.below hst6 (by omega)
 have bQ:Blk W6 (w3.heap.size) (g0 (Q)) (g1 (Q)) (g2 (Q)) (g3 (Q)):=HbQ.out.below hst6 (by omega)
 have bY:Blk W6 (w3.heap.size+1) (g0 (d % G)) (g1 (d % G)) (g2 (d % G)) (g3 (d % G)):=HbY.out.below hst6 (by omega)
 have bM:Blk W6 (w4.heap.size) (g0 (9223372036854775808)) (g1 (9223372036854775808)) (g2 (9223372036854775808)) (g3 (9223372036854775808)):=HbM.out.below hst6 (by omega)
 have hl_bG:w1.heap.size<W6.heap.size:=by have:=hst6.size;omega
 have hl_bP:w2.heap.size<W6.heap.size:=by have:=hst6.size;omega
 have hl_bX:w2.heap.size+1<W6.heap.size:=by have:=hst6.size;omega
 have hl_bQ:w3.heap.size<W6.heap.size:=by have:=hst6.size;omega
 have hl_bY:w3.heap.size+1<W6.heap.size:=by have:=hst6.size;omega
 have hl_bM:w4.heap.size<W6.heap.size:=by have:=hst6.size;omega
 clear hW6 hst6 hb6 hB5 hs5 hz6 HbN HbD HbR HbG HbP HbX HbQ HbY HbM
 have bRR:Hid (Blk2 W6 (w.heap.size+1+1) 0 0):=bR
 obtain ⟨bR0,bR1,bR2,bR3⟩:=bR
 obtain ⟨bP0,bP1,bP2,bP3, -, -, -, -⟩:=bP
 obtain ⟨bQ0,bQ1,bQ2,bQ3, -, -, -, -⟩:=bQ
 have zP0:=g0_bd P;have zP1:=g1_bd P;have zQ0:=g0_bd Q;have zQ1:=g1_bd Q
 clear bN bD bG bX bY bM
 rcases hcase with ⟨h2,rfl,rfl,rfl⟩ | ⟨h2,h1,rfl,rfl,rfl⟩ | ⟨h2,rfl,rfl,rfl,rfl,rfl⟩ | ⟨h2,rfl,rfl,hP3,hP2,hQ2,hN,hD,rfl⟩ | ⟨h2,h1,rfl,hP2,hQ2,hN,hD,rfl⟩ | ⟨h2,h1,rfl,hP3,hP2,hQ2,hN,hD,rfl⟩
 ·skip
  go_wp2
  generalize hW9:World.setCell _ _ _=W9
  have b9:=bRR.out.two (0) (0)
  rw [hW9] at b9
  have hB9:Below w.heap.size w W9:=by rw [← hW9];exact (by repeat' (first | (with_reducible exact Below.refl _ _) | (with_reducible assumption) | (with_reducible refine bdrewN _ ?_) | (with_reducible refine Below.alloc ?_ ?_ _) | (with_reducible refine Below.setCell ?_ ?_ _) | (with_reducible refine Below.drew ?_) | go_size | (simp;omega)))
  clear hW9
  obtain ⟨x0,x1, -, -⟩:=b9
  refine bodyPost_ret (by simp [results,Tryz.results161,go_sem,x0,x1];try rfl) rfl ?_
  exact ⟨rfl,hB9⟩
 ·have h2f:(0≤c2)=False:=by simp;omega
  go_wp2
  generalize hW9:World.setCell _ _ _=W9
  have b9:=bRR.out.two (0) (0)
  rw [hW9] at b9
  have hB9:Below w.heap.size w W9:=by rw [← hW9];exact (by repeat' (first | (with_reducible exact Below.refl _ _) | (with_reducible assumption) | (with_reducible refine bdrewN _ ?_) | (with_reducible refine Below.alloc ?_ ?_ _) | (with_reducible refine Below.setCell ?_ ?_ _) | (with_reducible refine Below.drew ?_) | go_size | (simp;omega)))
  clear hW9
  obtain ⟨x0,x1, -, -⟩:=b9
  refine bodyPost_ret (by simp [results,Tryz.results161,go_sem,x0,x1];try rfl) rfl ?_
  exact ⟨rfl,hB9⟩
 ·have h2f:(0≤c2)=False:=by simp;omega
  go_wp2
  generalize hW9:World.setCell _ _ _=W9
  have b9:=bRR.out.two (0) (0)
  rw [hW9] at b9
  have hB9:Below w.heap.size w W9:=by rw [← hW9];exact (by repeat' (first | (with_reducible exact Below.refl _ _) | (with_reducible assumption) | (with_reducible refine bdrewN _ ?_) | (with_reducible refine Below.alloc ?_ ?_ _) | (with_reducible refine Below.setCell ?_ ?_ _) | (with_reducible refine Below.drew ?_) | go_size | (simp;omega)))
  clear hW9
  obtain ⟨x0,x1, -, -⟩:=b9
  refine bodyPost_ret (by simp [results,Tryz.results161,go_sem,x0,x1];try rfl) rfl ?_
  exact ⟨rfl,hB9⟩
 ·have hN:Hid (N=_):=hN
  have hD:Hid (D=Q):=hD
  have h2f:(0≤c2)=False:=by simp;omega
  have xP:=low64 P (by omega) (by omega)
  have xQ:=low64 Q (by omega) (by omega)
  go_wp2
  generalize hW9:World.setCell _ _ _=W9
  have b9:=bRR.out.two (-(P - 1) - 1) (Q)
  rw [hW9] at b9
  have hB9:Below w.heap.size w W9:=by rw [← hW9];exact (by repeat' (first | (with_reducible exact Below.refl _ _) | (with_reducible assumption) | (with_reducible refine bdrewN _ ?_) | (with_reducible refine Below.alloc ?_ ?_ _) | (with_reducible refine Below.setCell ?_ ?_ _) | (with_reducible refine Below.drew ?_) | go_size | (simp;omega)))
  clear hW9
  obtain ⟨x0,x1, -, -⟩:=b9
  refine bodyPost_ret (by simp [results,Tryz.results161,go_sem,x0,x1];try rfl) rfl ?_
  exact ⟨ret_frac (by rw [hN.out];omega) (by rw [hD.out]) rfl,hB9⟩
 ·have hN:Hid (N=_):=hN
  have hD:Hid (D=Q):=hD
  have h2f:(0≤c2)=False:=by simp;omega
  have h1f:(0<c1)=False:=by simp;omega
  have h1e:(c1=0)=False:=by simp;omega
  have h1b:(c1==0)=false:=by simp;omega
  have xP:=low64 P (by omega) (by omega)
  have xQ:=low64 Q (by omega) (by omega)
  go_wp2
  generalize hW9:World.setCell _ _ _=W9
  have b9:=bRR.out.two (P) (Q)
  rw [hW9] at b9
  have hB9:Below w.heap.size w W9:=by rw [← hW9];exact (by repeat' (first | (with_reducible exact Below.refl _ _) | (with_reducible assumption) | (with_reducible refine bdrewN _ ?_) | (with_reducible refine Below.alloc ?_ ?_ _) | (with_reducible refine Below.setCell ?_ ?_ _) | (with_reducible refine Below.drew ?_) | go_size | (simp;omega)))
  clear hW9
  obtain ⟨x0,x1, -, -⟩:=b9
  refine bodyPost_ret (by simp [results,Tryz.results161,go_sem,x0,x1];try rfl) rfl ?_
  exact ⟨ret_frac (by rw [hN.out]) (by rw [hD.out]) rfl,hB9⟩
 ·have hN:Hid (N=_):=hN
  have hD:Hid (D=Q):=hD
  have h2f:(0≤c2)=False:=by simp;omega
  have h1f:(0<c1)=False:=by simp;omega
  have h1e:(c1=0)=False:=by simp;omega
  have h1b:(c1==0)=false:=by simp;omega
  have xP:=low64 P (by omega) (by omega)
  have xQ:=low64 Q (by omega) (by omega)
  go_wp2
  generalize hW9:World.setCell _ _ _=W9
  have b9:=bRR.out.two (-(P - 1) - 1) (Q)
  rw [hW9] at b9
  have hB9:Below w.heap.size w W9:=by rw [← hW9];exact (by repeat' (first | (with_reducible exact Below.refl _ _) | (with_reducible assumption) | (with_reducible refine bdrewN _ ?_) | (with_reducible refine Below.alloc ?_ ?_ _) | (with_reducible refine Below.setCell ?_ ?_ _) | (with_reducible refine Below.drew ?_) | go_size | (simp;omega)))
  clear hW9
  obtain ⟨x0,x1, -, -⟩:=b9
  refine bodyPost_ret (by simp [results,Tryz.results161,go_sem,x0,x1];try rfl) rfl ?_
  exact ⟨ret_frac (by rw [hN.out];omega) (by rw [hD.out]) rfl,hB9⟩
theorem rmade_any (b:Bool) (n d:Int) (w:World) (hn:0≤n) (hn':n≤170141183460469231731687303715884105728) (hd:0<d) (hd':d≤170141183460469231731687303715884105728) (hbn:b=true→0<n):
  Calls Tryz.prog 161 #[.bool b,.agg #[.int .u64 (g0 n),.int .u64 (g1 n),.int .u64 (g2 n),.int .u64 (g3 n)],.agg #[.int .u64 (g0 d),.int .u64 (g1 d),.int .u64 (g2 d),.int .u64 (g3 d)]] w fun e w'=>e=.returned (.tuple #[.agg #[.int .i64 (outN (sg b (n / gc n d)) (d / gc n d)),.int .i64 (outD (sg b (n / gc n d)) (d / gc n d))],.int .i64 (outE (sg b (n / gc n d)) (d / gc n d))])∧Below w.heap.size w w':=by
 obtain ⟨q1,q2,q3,q4,q5,q6,q7⟩:=gc_part n d hn hd
 refine rmade_raw b n d (gc n d) (n / gc n d) (d / gc n d) _ _ _ _ _ w hn hn' hd hd' rfl rfl rfl q1 q2 q3 q4 q5 q6 rfl rfl ?_
 generalize n / gc n d=P at*
 generalize d / gc n d=Q at*
 unfold cmpI
 cases b
 ·by_cases a1:P≤9223372036854775807∧Q≤9223372036854775807
  ·obtain ⟨e1,e2,e3⟩:=out_yes (p:=P) (q:=Q) (by omega) a1.1 a1.2
   have e1':outN (sg false P) Q=P:=e1
   have e2':outD (sg false P) Q=Q:=e2
   have e3':outE (sg false P) Q=0:=e3
   rw [e1',e2',e3',if_pos (show P<9223372036854775808 by omega),if_pos (show Q<9223372036854775808 by omega)]
   simp;omega
  ·obtain ⟨e1,e2,e3⟩:=out_no (p:=P) (q:=Q) (by omega)
   have e1':outN (sg false P) Q=0:=e1
   have e2':outD (sg false P) Q=0:=e2
   have e3':outE (sg false P) Q=10:=e3
   rw [e1',e2',e3']
   split<;>split<;>(try split)<;>(try split)<;>simp<;>omega
 ·have hp:=q7 (hbn rfl)
  by_cases a1:P≤9223372036854775808∧Q≤9223372036854775807
  ·obtain ⟨e1,e2,e3⟩:=out_yes (p:= -P) (q:=Q) (by omega) (by omega) a1.2
   have e1':outN (sg true P) Q= -P:=e1
   have e2':outD (sg true P) Q=Q:=e2
   have e3':outE (sg true P) Q=0:=e3
   rw [e1',e2',e3',if_pos (show Q<9223372036854775808 by omega)]
   split<;>(try split)<;>simp<;>omega
  ·obtain ⟨e1,e2,e3⟩:=out_no (p:= -P) (q:=Q) (by omega)
   have e1':outN (sg true P) Q=0:=e1
   have e2':outD (sg true P) Q=0:=e2
   have e3':outE (sg true P) Q=10:=e3
   rw [e1',e2',e3']
   split<;>split<;>(try split)<;>(try split)<;>simp<;>omega
theorem rof_ex (n:Int) (w:World) (h1:0≤n) (h2:n≤18446744073709551615):
  Calls Tryz.prog 159 #[.int .u64 n] w fun e w'=>e=.returned (.agg #[.int .u64 (g0 n),.int .u64 (g1 n),.int .u64 0,.int .u64 0])∧∃ c1 c2:Array Value,w'=(w.alloc (.cells c1 192)).alloc (.cells c2 192):=by
 go_enter Tryz.func159,Tryz.ntmps159
 go_wp2
 go_returns
 exact ⟨ret_big (by unfold g0;rfl) (by unfold g1;omega) rfl rfl,_,_,rfl⟩
end Go.Proofs.YthodedagbbifbaaGreat
