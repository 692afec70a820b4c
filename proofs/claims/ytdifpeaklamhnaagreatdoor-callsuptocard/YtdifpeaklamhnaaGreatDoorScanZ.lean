import Derived.WalkSpells
import Derived.WalkLawsBesides
import Derived.Test.YtdifpeaklamhnaaGreatDoorShelfNZ
set_option linter.unusedVariables false
set_option linter.unusedSimpArgs false
set_option maxRecDepth 100000
set_option maxHeartbeats 0
namespace Go.Proofs.YtdifpeaklamhnaaGreatDoor
open Go.Proofs.Tryz
open Go.RowKit
open Bool (not_eq_true)
open Below (refl drew)
open Nat (le_refl)
open List (drop_of_length_le takeWhile_cons length_drop)
def eD(c:Int):Bool:=c==32||c==9||c==10
def aL(c:Int):Bool:=c==40||c==41
def bP(c:Int):Bool:=decide (48<=c)&&decide (c<=57)
def eQ(c:Int):Bool:=decide (97<=c)&&decide (c<=122)
abbrev Bs:=List UInt8
def jG(l:Bs):Bool:=l== [43]||l== [45]||l== [42]||l== [47]||l== [61]||l== [60]||l== [60,61]
def jh(l:Bs):Bool:=l== [116,114,117,101]||l== [102,97,108,115,101]||l== [117,115,101,114]
def Ab(c:UInt8):Bool:=eQ c.toNat||bP c.toNat
def aS(l:Bs):Bool:=decide (0<l.length)&&decide (l.length<=12)&&eQ (l.headD 0).toNat&&l.all Ab
def iC(l:Bs):Bool:=decide (l.length=2)&&(l.headD 0==36)&&bP (l.getD 1 0).toNat&& !(l.getD 1 0==48)
def bN:Bs->Int->Bool
 | [],_=>true
 |c::r,n=>bP c.toNat&&decide (n*10+(c.toNat- 48)<=1000000000)&&bN r (n*10+(c.toNat- 48))
def aU(l:Bs):Bs:=if l.headD 0==45 then l.drop 1 else l
def dQ(l:Bs):Bool:=l== [48]||(decide (0<(aU l).length)&& !((aU l).headD 0==48)&&bN (aU l) 0)
def qQ(c:UInt8):Bool:=decide (32<=c.toNat)&&decide (c.toNat<=126)&& !(c==39)
def cz(l:Bs):Bool:=decide (2<=l.length)&&decide (l.length<=32)&&(l.getD 0 0==39)&&(l.getD (l.length- 1) 0==39)&&((l.take (l.length- 1)).drop 1).all qQ
def jO(l:Bs):Bool:=l.contains 46&&aS (l.takeWhile (· != 46))&&aS ((l.dropWhile (· != 46)).drop 1)
def aQ(l:Bs):Int:=
 if l== [40]then 1 else if l== [41]then 2 else if jG l then 8 else if dQ l then 3 else if cz l then 4
 else if iC l then 7 else if aS l then 5 else if jO l then 6 else 0
theorem ai(s:ByteArray):s.toList.length=s.size:=by rw[ByteArray.toList_eq];simp
theorem dM(s:ByteArray)(k:Nat)(h:k<s.size):s.toList[k]'(by rw[ai];exact h)=s[k]:=by
 simp only[ByteArray.toList_eq];rfl
theorem drop_cons(s:ByteArray)(k:Nat)(h:k<s.size):s.toList.drop k=s[k]::s.toList.drop (k+1):=by
 rw[List.drop_eq_getElem_cons (by rw[ai];exact h),dM s k h]
theorem rA(s:ByteArray)(h:s.size=0):s.toList.isEmpty=true:=by
 rw[List.isEmpty_iff_length_eq_zero,ai,h]
theorem oN(s:ByteArray)(h:0<s.size):s.toList.isEmpty=false:=by
 rw[Bool.eq_false_iff];intro e;rw[List.isEmpty_iff_length_eq_zero,ai]at e;omega
theorem jc(s:ByteArray)(h:0<s.size):s.toList.headD 0=s[0]:=by
 have:=drop_cons s 0 h;rw[List.drop_zero]at this;rw[this];rfl
theorem uy(s:ByteArray)(k:Nat)(h:k<s.size):s.toList.getD k 0=s[k]:=by
 rw[List.getD_eq_getElem?_getD,List.getElem?_eq_getElem (by rw[ai];exact h),dM s k h];rfl
theorem ug(f:UInt8->Bool)(s:ByteArray)(k:Nat)(h:k<s.size):(s.toList.drop k).all f=(f s[k]&&(s.toList.drop (k+1)).all f):=by
 rw[drop_cons s k h];rfl
theorem xW(f:UInt8->Bool)(s:ByteArray)(k:Nat)(h:s.size<=k):(s.toList.drop k).all f=true:=by
 rw[drop_of_length_le (by rw[ai];exact h)];rfl
theorem Qj(s:ByteArray)(h:0<s.size)(a:s.size<=12):aS s.toList=(eQ s[0].toNat&&s.toList.all Ab):=by
 unfold aS;rw[ai,jc s h];simp[h,a]
theorem ax{a b:Bool}(h:a=b):Ending.returned (.bool a)=.returned (.bool b):=by rw[h]
theorem iO{k:IntKind}{a b:Int}(h:a=b):Ending.returned (.int k a)=.returned (.int k b):=by rw[h]
theorem jF(c:Int)(w:World):
  Calls prog 98 #[.int .u8 c] w λe w'=>e=.returned (.bool (eD c))/\w'=w:=by
 go_enter Tryz.func98,Tryz.ntmps98
 go_wp2
 all_goals go_ret
 all_goals(refine⟨ax ?_,rfl⟩;simp[eD, *])
theorem jd(c:Int)(w:World):
  Calls prog 165 #[.int .u8 c] w λe w'=>e=.returned (.bool (aL c))/\w'=w:=by
 go_enter Tryz.func165,Tryz.ntmps165
 go_wp2
 all_goals go_ret
 all_goals(refine⟨ax ?_,rfl⟩;simp[aL, *])
theorem fJ(c:Int)(w:World):
  Calls prog 236 #[.int .u8 c] w λe w'=>e=.returned (.bool (bP c))/\w'=w:=by
 go_enter Tryz.func236,Tryz.ntmps236
 go_wp2
 all_goals go_ret
 all_goals(refine⟨ax ?_,rfl⟩;simp[bP]<;>omega)
theorem jR(c:Int)(w:World):
  Calls prog 237 #[.int .u8 c] w λe w'=>e=.returned (.bool (eQ c))/\w'=w:=by
 go_enter Tryz.func237,Tryz.ntmps237
 go_wp2
 all_goals go_ret
 all_goals(refine⟨ax ?_,rfl⟩;simp[eQ]<;>omega)
theorem yT(s:ByteArray)(w:World):
  Calls prog 167 #[.string s] w λe w'=>e=.returned (.bool (jG s.toList))/\w'=w:=by
 go_enter Tryz.func167,Tryz.ntmps167
 go_wp2
 all_goals go_ret
 all_goals(refine⟨ax ?_,rfl⟩;simp_all[jG])
theorem kI(s:ByteArray)(w:World)(r:s.size<=maxLen):
  Calls prog 171 #[.string s] w λe w'=>e=.returned (.bool (aS s.toList))/\w'=w:=by
 unfold maxLen at r;by_cases o:s.size=0
 ·have q:=rA s o;have h:Hid (aS s.toList=false):=by simp[Hid,aS,ai,o]
  go_enter Tryz.func171,Tryz.ntmps171
  go_wp2_with fail
  go_ret;exact⟨ax h.out.symm,rfl⟩
 ·have b:0<s.size:=by omega
  have q:=oN s b;by_cases d:s.size<=12
  ·have l:Hid (aS s.toList=(eQ s[0].toNat&&s.toList.all Ab)):=Qj s b d;by_cases m:eQ s[0].toNat=true
   ·go_enter Tryz.func171,Tryz.ntmps171
    go_wp2_with(first|(go_at_call 237;refine(jR _ _).mono ?_;rintro e w' ⟨rfl,rfl⟩))
    go_loop [19] (λi=>∃k:Nat,k<=s.size/\i=.int .i64 k/\Hid (s.toList.all Ab=(s.toList.drop k).all Ab)) (λi=>s.size- (intOf i).toNat)
    case atStart=>exact⟨0,Nat.zero_le _,rfl,rfl⟩
    case round=>
     obtain⟨k,t,rfl,f⟩:=hrel;by_cases n:k<s.size
     ·have j:Hid ((s.toList.drop k).all Ab=(Ab s[k]&&(s.toList.drop (k+1)).all Ab)):=ug Ab s k n;have g:Hid (Ab s[k]=(eQ s[k].toNat||bP s[k].toNat)):=rfl;by_cases a:eQ s[k].toNat=true
      ·go_wp2_with(first|(go_at_call 237;refine(jR _ _).mono ?_;rintro e w' ⟨rfl,rfl⟩)|(go_at_call 236;refine(fJ _ _).mono ?_;rintro e w' ⟨rfl,rfl⟩))
       go_round
       case rel=>exact⟨k+1,by omega,by go_num,by rw[Hid,f.out,j.out,g.out,a];rfl⟩
       case measure=>simp[intOf];omega
      ·rw[not_eq_true]at a;by_cases c:bP s[k].toNat=true
       ·go_wp2_with(first|(go_at_call 237;refine(jR _ _).mono ?_;rintro e w' ⟨rfl,rfl⟩)|(go_at_call 236;refine(fJ _ _).mono ?_;rintro e w' ⟨rfl,rfl⟩))
        go_round
        case rel=>exact⟨k+1,by omega,by go_num,by rw[Hid,f.out,j.out,g.out,a,c];rfl⟩
        case measure=>simp[intOf];omega
       ·rw[not_eq_true]at c
        go_wp2_with(first|(go_at_call 237;refine(jR _ _).mono ?_;rintro e w' ⟨rfl,rfl⟩)|(go_at_call 236;refine(fJ _ _).mono ?_;rintro e w' ⟨rfl,rfl⟩))
        go_ret;exact⟨ax (by rw[l.out,f.out,j.out,g.out,a,c];simp),rfl⟩
     ·have p:Hid ((s.toList.drop k).all Ab=true):=xW Ab s k (by omega)
      go_wp2_with fail
      go_ret;exact⟨ax (by rw[l.out,f.out,p.out,m];rfl),rfl⟩
   ·rw[not_eq_true]at m;go_enter Tryz.func171,Tryz.ntmps171
    go_wp2_with(first|(go_at_call 237;refine(jR _ _).mono ?_;rintro e w' ⟨rfl,rfl⟩))
    go_ret;exact⟨ax (by rw[l.out,m];rfl),rfl⟩
  ·have h:Hid (aS s.toList=false):=by simp[Hid,aS,ai,d]
   go_enter Tryz.func171,Tryz.ntmps171
   go_wp2_with fail
   go_ret;exact⟨ax h.out.symm,rfl⟩
theorem qX(c:UInt8)(n:Nat)(a:n<256):(c==UInt8.ofNat n)=decide ((c.toNat:Int)=n):=by
 rw[Bool.eq_iff_iff];simp only[beq_iff_eq,decide_eq_true_eq];constructor
 ·rintro rfl;simp;omega
 ·intro h;apply UInt8.toNat_inj.mp;simp;omega
theorem Co(a b:Int):(a != b)= !decide (a=b):=by
 rw[Bool.eq_iff_iff];simp
theorem Ke(s:ByteArray)(h:s.size=2):iC s.toList=(decide ((s[0].toNat:Int)=36)&&bP s[1].toNat&& !decide ((s[1].toNat:Int)=48)):=by
 unfold iC;rw[ai,jc s (by omega),uy s 1 (by omega)];rw[show(36:UInt8)=UInt8.ofNat 36 from rfl,show(48:UInt8)=UInt8.ofNat 48 from rfl,qX _ 36 (by omega),qX _ 48 (by omega)];simp[h]
theorem xL(s:ByteArray)(w:World):
  Calls prog 170 #[.string s] w λe w'=>e=.returned (.bool (iC s.toList))/\w'=w:=by
 by_cases c:s.size=2
 ·have a:Hid (iC s.toList=(decide ((s[0].toNat:Int)=36)&&bP s[1].toNat&& !decide ((s[1].toNat:Int)=48))):=Ke s c;by_cases d:(s[0].toNat:Int)=36
  ·by_cases b:bP s[1].toNat=true
   ·go_enter Tryz.func170,Tryz.ntmps170
    go_wp2_with(first|(go_at_call 236;refine(fJ _ _).mono ?_;rintro e w' ⟨rfl,rfl⟩))
    go_ret;exact⟨ax (by rw[a.out,d,b];simp[Co]),rfl⟩
   ·rw[not_eq_true]at b;go_enter Tryz.func170,Tryz.ntmps170
    go_wp2_with(first|(go_at_call 236;refine(fJ _ _).mono ?_;rintro e w' ⟨rfl,rfl⟩))
    go_ret;exact⟨ax (by rw[a.out,b];simp),rfl⟩
  ·go_enter Tryz.func170,Tryz.ntmps170
   go_wp2_with(first|(go_at_call 236;refine(fJ _ _).mono ?_;rintro e w' ⟨rfl,rfl⟩))
   go_ret;exact⟨ax (by rw[a.out];simp[d]),rfl⟩
 ·have a:Hid (iC s.toList=false):=by simp[Hid,iC,ai,c]
  go_enter Tryz.func170,Tryz.ntmps170
  go_wp2_with fail
  go_ret;exact⟨ax a.out.symm,rfl⟩
theorem FY(s:ByteArray)(k:Nat)(h:k<s.size- 1):
  ((s.toList.take (s.size- 1)).drop k).all qQ=(qQ (s[k]'(by omega))&&((s.toList.take (s.size- 1)).drop (k+1)).all qQ):=by
 have a:(s.toList.take (s.size- 1)).length=s.size- 1:=by rw[List.length_take,ai];omega
 rw[List.drop_eq_getElem_cons (by omega)];simp only[List.all_cons,List.getElem_take,dM s k (by omega)]
theorem Kk(s:ByteArray)(k:Nat)(h:s.size- 1<=k):((s.toList.take (s.size- 1)).drop k).all qQ=true:=by
 rw[drop_of_length_le (by rw[List.length_take,ai];omega)];rfl
theorem BB(s:ByteArray)(h:2<=s.size)(a:s.size<=32):cz s.toList=
  (decide ((s[0].toNat:Int)=39)&&decide ((s[s.size- 1].toNat:Int)=39)&&((s.toList.take (s.size- 1)).drop 1).all qQ):=by
 unfold cz;rw[ai,uy s 0 (by omega),uy s (s.size- 1) (by omega)];rw[show(39:UInt8)=UInt8.ofNat 39 from rfl,qX _ 39 (by omega),qX _ 39 (by omega)];simp[h,a]
theorem Kj(c:UInt8):qQ c=(!decide ((c.toNat:Int)<32)&& !decide ((126:Int)<c.toNat)&& !decide ((c.toNat:Int)=39)):=by
 unfold qQ;rw[show(39:UInt8)=UInt8.ofNat 39 from rfl,qX _ 39 (by omega)];rw[Bool.eq_iff_iff];simp;omega
theorem EX(s:ByteArray)(w:World)(x:s.size<=maxLen):
  Calls prog 169 #[.string s] w λe w'=>e=.returned (.bool (cz s.toList))/\w'=w:=by
 unfold maxLen at x;by_cases j:2<=s.size/\s.size<=32
 ·obtain⟨j,l⟩:=j;have a:=BB s j l;replace a:Hid _:=a;by_cases d:(s[0].toNat:Int)=39/\(s[s.size- 1].toNat:Int)=39
  ·obtain⟨d,g⟩:=d;go_enter Tryz.func169,Tryz.ntmps169
   go_wp2_with fail
   go_loop [3] (λi=>∃k:Nat,1<=k/\k<=s.size- 1/\i=.int .i64 k/\Hid (((s.toList.take (s.size- 1)).drop 1).all qQ=((s.toList.take (s.size- 1)).drop k).all qQ)) (λi=>s.size- (intOf i).toNat)
   case atStart=>exact⟨1,by omega,by omega,rfl,rfl⟩
   case round=>
    obtain⟨k,u,z,rfl,f⟩:=hrel;by_cases m:k<s.size- 1
    ·have v:k<s.size:=by omega
     have c:=FY s k m;replace c:Hid _:=c;have b:=Kj s[k];replace b:Hid _:=b;by_cases o:(s[k].toNat:Int)<32
     ·go_wp2_with fail
      go_ret;exact⟨ax (by rw[a.out,f.out,c.out,b.out];simp[o]),rfl⟩
     ·by_cases hb:(126:Int)<s[k].toNat
      ·go_wp2_with fail
       go_ret;exact⟨ax (by rw[a.out,f.out,c.out,b.out];simp[hb]),rfl⟩
      ·by_cases p:(s[k].toNat:Int)=39
       ·go_wp2_with fail
        go_ret;exact⟨ax (by rw[a.out,f.out,c.out,b.out];simp[p]),rfl⟩
       ·have q:Hid (qQ s[k]=true):=by rw[Hid,b.out];simp[o,hb,p]
        go_wp2_with fail
        go_round
        case rel=>exact⟨k+1,by omega,by omega,by go_num,by rw[Hid,f.out,c.out,q.out];rfl⟩
        case measure=>simp[intOf];omega
    ·have r:Hid (((s.toList.take (s.size- 1)).drop k).all qQ=true):=Kk s k (by omega)
     go_wp2_with fail
     go_ret;exact⟨ax (by rw[a.out,f.out,r.out,d,g];simp),rfl⟩
  ·by_cases g:(s[0].toNat:Int)=39
   ·have n:Hid (¬(s[s.size- 1].toNat:Int)=39):=λh=>d ⟨g,h⟩;have t:((s[s.size- 1].toNat:Int) != 39)=true:=by rw[Co,decide_eq_false n.out];rfl
    clear d;go_enter Tryz.func169,Tryz.ntmps169
    go_wp2_with fail
    go_ret;exact⟨ax (by rw[a.out,decide_eq_false n.out];simp),rfl⟩
   ·clear d;go_enter Tryz.func169,Tryz.ntmps169
    go_wp2_with fail
    go_ret;exact⟨ax (by rw[a.out];simp[g]),rfl⟩
 ·have a:Hid (cz s.toList=false):=by
   simp only[Hid,cz,ai];simp;omega
  by_cases t:s.size<2
  ·go_enter Tryz.func169,Tryz.ntmps169
   go_wp2_with fail
   go_ret;exact⟨ax a.out.symm,rfl⟩
  ·have y:32<s.size:=by omega
   go_enter Tryz.func169,Tryz.ntmps169
   go_wp2_with fail
   go_ret;exact⟨ax a.out.symm,rfl⟩
theorem gV(s:ByteArray)(w:World):
  Calls prog 175 #[.string s] w λe w'=>e=.returned (.bool (jh s.toList))/\Below w.heap.size w w':=by
 go_enter Tryz.func175,Tryz.ntmps175
 go_wp2
 all_goals go_ret
 all_goals(refine⟨ax ?_,refl _ _⟩;simp_all[jh])
def fT(k:Int)(l:Bs):Bool:=k==3||k==4||k==6||k==7||jh l
def ku(k:Int)(l:Bs):Bool:=k==8||(k==5&& !jh l)
theorem lU(k:Int)(s:ByteArray)(w:World):
  Calls prog 103 #[.agg #[.int .i64 k,.string s]] w λe w'=>e=.returned (.bool (fT k s.toList))/\Below w.heap.size w w':=by
 go_enter Tryz.func103,Tryz.ntmps103
 go_wp2_with(first|(go_at_call 175;refine(gV _ _).mono ?_;rintro e w' ⟨rfl,hb⟩))
 all_goals go_ret
 all_goals first
  |(refine⟨ax ?_,(refl _ _).alloc (le_refl _) _⟩;simp_all[fT];done)
  |(refine⟨ax ?_,((refl _ _).alloc (le_refl _) _).trans (hb.mono (by simp))⟩;simp_all[fT])
theorem sV(k:Int)(s:ByteArray)(w:World):
  Calls prog 173 #[.agg #[.int .i64 k,.string s]] w λe w'=>e=.returned (.bool (ku k s.toList))/\Below w.heap.size w w':=by
 by_cases b:k=8
 ·subst b;go_enter Tryz.func173,Tryz.ntmps173
  go_wp2_with(first|(go_at_call 175;refine(gV _ _).mono ?_;rintro e w' ⟨rfl,hb⟩))
  go_ret;exact⟨ax (by simp[ku]),(refl _ _).alloc (le_refl _) _⟩
 ·by_cases a:k=5
  ·subst a;go_enter Tryz.func173,Tryz.ntmps173
   go_wp2_with(first|(go_at_call 175;refine(gV _ _).mono ?_;rintro e w' ⟨rfl,hb⟩))
   go_ret;exact⟨ax (by simp[ku]),((refl _ _).alloc (le_refl _) _).trans (hb.mono (by simp))⟩
  ·go_enter Tryz.func173,Tryz.ntmps173
   go_wp2_with(first|(go_at_call 175;refine(gV _ _).mono ?_;rintro e w' ⟨rfl,hb⟩))
   go_ret;exact⟨ax (by simp[ku,b,a]),(refl _ _).alloc (le_refl _) _⟩
theorem jD(s:ByteArray):s.data.toList=s.toList:=(ByteArray.toList_eq s).symm
theorem Jr(s:ByteArray):Lib.trimPrefix s.data.toList [45]=aU s.toList:=by
 rw[jD];generalize s.toList=l
 cases l with
 |nil=>rfl
 |cons c r=>
  by_cases h:c=45
  ·subst h;rfl
  ·have a:aU (c::r)=c::r:=by unfold aU;rw[if_neg];simpa using h
   have b:Lib.trimPrefix (c::r) [45]=c::r:=by
    unfold Lib.trimPrefix Lib.hasPrefix;rw[if_neg];simpa[List.isPrefixOf]using(λe=>h (Eq.symm e))
   rw[a,b]
theorem Ha(l:Bs):(aU l).length<=l.length:=by unfold aU;split<;>simp
theorem vI(l:Bs):(ByteArray.mk l.toArray).toList=l:=ByteArray.toList_mk l
theorem Rn(l:Bs):(ByteArray.mk l.toArray).size=l.length:=by rw[<-ai,vI]
theorem CV(s:ByteArray)(k:Nat)(n:Int)(h:k<s.size):bN (s.toList.drop k) n=
  (bP s[k].toNat&&decide (n*10+(s[k].toNat- 48)<=1000000000)&&bN (s.toList.drop (k+1)) (n*10+(s[k].toNat- 48))):=by
 rw[drop_cons s k h,bN]
theorem FJ(s:ByteArray)(k:Nat)(n:Int)(h:s.size<=k):bN (s.toList.drop k) n=true:=by
 rw[drop_of_length_le (by rw[ai];exact h),bN]
theorem kG{c:Int}(h:bP c=true):48<=c/\c<=57:=by
 unfold bP at h;simpa using h
theorem Am(s:ByteArray)(w:World)(F:s.size<=maxLen):
  Calls prog 168 #[.string s] w λe w'=>e=.returned (.bool (dQ s.toList))/\w'=w:=by
 unfold maxLen at F;by_cases q:(s.toList== [48])=true
 ·have h:Hid (dQ s.toList=true):=by rw[Hid,dQ,q];rfl
  go_enter Tryz.func168,Tryz.ntmps168
  go_wp2_with fail
  go_ret;exact⟨ax h.out.symm,rfl⟩
 ·rw[not_eq_true]at q;obtain⟨d,r⟩:∃d:ByteArray,d=⟨(Lib.trimPrefix s.data.toList [45]).toArray⟩:=⟨_,rfl⟩;have v:Hid (aU s.toList=d.toList):=by rw[Hid,r,Jr];exact(vI _).symm
  have C:d.size<=s.size:=by rw[<-ai,<-v.out,<-ai s];exact Ha _
  have p:∀w:World,Calls prog 235 #[.string s,.string ⟨#[45]⟩] w λe w'=>e=.returned (.string d)/\w'=w:=by
   intro w;rw[r];exact Tryz.strings_TrimPrefix s ⟨#[45]⟩ w
  clear r;have h:Hid (dQ s.toList=(decide (0<d.toList.length)&& !(d.toList.headD 0==48)&&bN d.toList 0)):=by
   rw[Hid,dQ,q,v.out];rfl
  by_cases l:d.size=0
  ·have A:=rA d l;go_enter Tryz.func168,Tryz.ntmps168
   go_wp2_with(go_at_call 235;refine(p _).mono ?_;rintro e w' ⟨rfl,rfl⟩)
   go_ret;exact⟨ax (by rw[h.out,ai];simp[l]),rfl⟩
  ·have a:0<d.size:=by omega
   have A:=oN d a;have o:Hid ((d.toList.headD 0==48)=decide ((d[0].toNat:Int)=48)):=by
    rw[Hid,jc d a];exact qX _ 48 (by omega)
   by_cases b:(d[0].toNat:Int)=48
   ·go_enter Tryz.func168,Tryz.ntmps168
    go_wp2_with(go_at_call 235;refine(p _).mono ?_;rintro e w' ⟨rfl,rfl⟩)
    go_ret;exact⟨ax (by rw[h.out,o.out];simp[b]),rfl⟩
   ·have g:Hid (dQ s.toList=bN d.toList 0):=by
     rw[Hid,h.out,o.out,ai];simp[b,a]
    clear h o;have x:((d[0].toNat:Int)==48)=false:=by simpa using b
    clear b;go_enter Tryz.func168,Tryz.ntmps168
    go_wp2_with(go_at_call 235;refine(p _).mono ?_;rintro e w' ⟨rfl,rfl⟩)
    go_loop [4,19] (λt i=>∃(k:Nat) (n:Int),k<=d.size/\i=.int .i64 k/\t=.int .i64 n/\0<=n/\n<=1000000000/\Hid (bN d.toList 0=bN (d.toList.drop k) n)) (λ_ i=>d.size- (intOf i).toNat)
    case atStart=>exact⟨0,0,Nat.zero_le _,rfl,rfl,by omega,by omega,rfl⟩
    case round=>
     obtain⟨k,n,G,rfl,rfl,D,E,m⟩:=hrel;by_cases u:k<d.size
     ·have j:=CV d k n u;replace j:Hid _:=j;by_cases c:bP d[k].toNat=true
      ·have B:=kG c;by_cases f:n*10+(d[k].toNat- 48)<=1000000000
       ·go_wp2_with(first|(go_at_call 236;refine(fJ _ _).mono ?_;rintro e w' ⟨rfl,rfl⟩))
        go_round
        case rel=>exact⟨k+1,n*10+(d[k].toNat- 48),by omega,by go_num,by go_num,by omega,by omega,by rw[Hid,m.out,j.out,c,decide_eq_true f];rfl⟩
        case measure=>simp[intOf];omega
       ·have y:Hid (decide (n*10+(d[k].toNat- 48)<=1000000000)=false):=decide_eq_false f
        go_wp2_with(first|(go_at_call 236;refine(fJ _ _).mono ?_;rintro e w' ⟨rfl,rfl⟩))
        go_ret;exact⟨ax (by rw[g.out,m.out,j.out,y.out];simp),rfl⟩
      ·rw[not_eq_true]at c
       go_wp2_with(first|(go_at_call 236;refine(fJ _ _).mono ?_;rintro e w' ⟨rfl,rfl⟩))
       go_ret;exact⟨ax (by rw[g.out,m.out,j.out,c];rfl),rfl⟩
     ·have z:Hid (bN (d.toList.drop k) n=true):=FJ d k n (by omega)
      go_wp2_with fail
      go_ret;exact⟨ax (by rw[g.out,m.out,z.out]),rfl⟩
theorem JR(l:Bs)(c:UInt8)(h:l.contains c=false):Lib.indexByte l c= -1:=by
 induction l with
 |nil=>rfl
 |cons b r ih=>
  simp only[List.contains_cons,Bool.or_eq_false_iff]at h;have hb:(b==c)=false:=by
   have:=h.1;rw[beq_eq_false_iff_ne]at this ⊢;exact λe=>this e.symm
  rw[Lib.indexByte,hb,ih h.2];rfl
theorem pV(l:Bs)(c:UInt8)(h:l.contains c=true):Lib.indexByte l c=(l.takeWhile (· != c)).length/\
  (l.takeWhile (· != c)).length<l.length/\l.take (l.takeWhile (· != c)).length=l.takeWhile (· != c)/\l.drop (l.takeWhile (· != c)).length=l.dropWhile (· != c):=by
 induction l with
 |nil=>simp at h
 |cons b r ih=>
  by_cases hb:b=c
  ·subst hb;have e:List.takeWhile (λx=>x != b) (b::r)= []:=by rw[takeWhile_cons];simp
   have f:List.dropWhile (λx=>x != b) (b::r)=b::r:=by rw[List.dropWhile_cons];simp
   rw[e,f,Lib.indexByte];simp
  ·have d:(b==c)=false:=by simpa using hb
   have a:(b != c)=true:=by simpa using hb
   have g:r.contains c=true:=by
    simp only[List.contains_cons,Bool.or_eq_true]at h;rcases h with h|h
    ·exact absurd (by simpa using h:c=b).symm hb
    ·exact h
   obtain⟨i,i2,i3,i4⟩:=ih g;rw[takeWhile_cons,List.dropWhile_cons,if_pos a,if_pos a,Lib.indexByte,d,i];refine⟨?_,by simp;omega,by simp[i3],by simp[i4]⟩;rw[if_neg (by simp),if_neg (by simp)];simp
theorem uu(s:ByteArray)(n:Nat):(s.extract 0 n).toList=s.toList.take n:=by
 rw[ByteArray.toList_eq,ByteArray.toList_eq,ByteArray.data_extract];simp
theorem qH(s:ByteArray)(n:Nat):(s.extract n s.size).toList=s.toList.drop n:=by
 rw[<-jD,Lib.extract_to_end,jD]
theorem Dx(s:ByteArray)(w:World)(k:s.size<=maxLen):
  Calls prog 287 #[.string s,.string ⟨#[46]⟩] w λe w'=>Below w.heap.size w w'/\
   ((s.toList.contains 46=true/\∃b a:ByteArray,e=.returned (.tuple #[.string b,.string a,.bool true])/\b.toList=s.toList.takeWhile (· != 46)/\a.toList=(s.toList.dropWhile (· != 46)).drop 1)\/
    (s.toList.contains 46=false/\e=.returned (.tuple #[.string s,.string ⟨#[]⟩,.bool false]))):=by
 unfold maxLen at k;by_cases c:s.toList.contains 46=true
 ·obtain⟨f,i2,i3,i4⟩:=pV s.toList 46 c;obtain⟨n,g⟩:∃n,n=(s.toList.takeWhile (· != 46)).length:=⟨_,rfl⟩;rw[<-g]at f i2 i3 i4;rw[ai]at i2;have d:∀w:World,Calls prog 326 #[.string s,.string ⟨#[46]⟩] w λe w'=>e=.returned (.int .i64 n)/\w'=w:=by
   intro w;rw[<-f,<-jD];exact Tryz.stringslite_Index_one s 46 w
  have h:Hid (s.toList.take n=s.toList.takeWhile (· != 46)):=i3;have i:Hid (s.toList.drop n=s.toList.dropWhile (· != 46)):=i4;have j:Hid (s.toList.contains 46=true):=c;clear f i3 i4 g c;go_enter Tryz.func287,Tryz.ntmps287
  go_wp2_with(go_at_call 326;refine(d _).mono ?_;rintro e w' ⟨rfl,rfl⟩)
  go_region;all_goals(try go_wp2)
  all_goals go_ret3
  exact⟨drew (refl _ _),.inl ⟨j.out,s.extract 0 n,s.extract (n+1) s.size,rfl,by rw[uu,h.out],by rw[qH,<-i.out,List.drop_drop]⟩⟩
 ·rw[not_eq_true]at c;have d:∀w:World,Calls prog 326 #[.string s,.string ⟨#[46]⟩] w λe w'=>e=.returned (.int .i64 (-1))/\w'=w:=by
   intro w;rw[<-JR _ _ c,<-jD];exact Tryz.stringslite_Index_one s 46 w
  go_enter Tryz.func287,Tryz.ntmps287
  go_wp2_with(go_at_call 326;refine(d _).mono ?_;rintro e w' ⟨rfl,rfl⟩)
  go_ret3;exact⟨refl _ _,.inr ⟨c,rfl⟩⟩
theorem QP(s:ByteArray)(w:World)(k:s.size<=maxLen):
  Calls prog 238 #[.string s,.string ⟨#[46]⟩] w λe w'=>Below w.heap.size w w'/\
   ((s.toList.contains 46=true/\∃b a:ByteArray,e=.returned (.tuple #[.string b,.string a,.bool true])/\b.toList=s.toList.takeWhile (· != 46)/\a.toList=(s.toList.dropWhile (· != 46)).drop 1)\/
    (s.toList.contains 46=false/\e=.returned (.tuple #[.string s,.string ⟨#[]⟩,.bool false]))):=by
 go_enter Tryz.func238,Tryz.ntmps238
 go_wp2_with(go_at_call 287;refine(Dx _ _ k).mono ?_)
 rintro e w' ⟨hb,h⟩;rcases h with⟨c,b,a,rfl,f,g⟩|⟨c,rfl⟩
 ·have d:Hid (s.toList.contains 46=true):=c;have i:Hid _:=f;have j:Hid _:=g;clear c f g
  go_wp2
  go_ret3;exact⟨hb,.inl ⟨d.out,b,a,rfl,i.out,j.out⟩⟩
 ·have d:Hid (s.toList.contains 46=false):=c;clear c
  go_wp2
  go_ret3;exact⟨hb,.inr ⟨d.out,rfl⟩⟩
theorem Qc(l:Bs)(p:UInt8->Bool):(l.takeWhile p).length<=l.length:=by
 induction l with
 |nil=>simp
 |cons c r ih=>rw[takeWhile_cons];split<;>simp;omega
theorem Vn(l:Bs)(p:UInt8->Bool):(l.dropWhile p).length<=l.length:=by
 induction l with
 |nil=>simp
 |cons c r ih=>rw[List.dropWhile_cons];split<;>simp;omega
theorem CO(s:ByteArray)(w:World)(j:s.size<=maxLen):
  Calls prog 172 #[.string s] w λe w'=>e=.returned (.bool (jO s.toList))/\Below w.heap.size w w':=by
 go_enter Tryz.func172,Tryz.ntmps172
 go_wp2_with(go_at_call 238;refine(QP _ _ j).mono ?_)
 rintro e w' ⟨hb,h⟩;rcases h with⟨c,b,a,rfl,f,g⟩|⟨c,rfl⟩
 ·have l:b.size<=maxLen:=by
   rw[<-ai,f];exact Nat.le_trans (Qc _ _) (by rw[ai];exact j)
  have k:a.size<=maxLen:=by
   rw[<-ai,g,length_drop];have:=Vn s.toList (· != 46);rw[ai]at this;omega
  have d:Hid (jO s.toList=(aS b.toList&&aS a.toList)):=by
   rw[Hid,jO,c,f,g];rfl
  clear c f g;by_cases i:aS b.toList=true
  ·go_wp2_with(go_at_call 171;refine(kI _ _ (by assumption)).mono ?_;rintro e w2 ⟨rfl,rfl⟩)
   go_ret;exact⟨ax (by rw[d.out,i];rfl),hb⟩
  ·rw[not_eq_true]at i
   go_wp2_with(go_at_call 171;refine(kI _ _ (by assumption)).mono ?_;rintro e w2 ⟨rfl,rfl⟩)
   go_ret;exact⟨ax (by rw[d.out,i];rfl),hb⟩
 ·have d:Hid (jO s.toList=false):=by rw[Hid,jO,c];rfl
  clear c
  go_wp2_with fail
  go_ret;exact⟨ax d.out.symm,hb⟩
theorem IP(s:ByteArray)(w:World)(a:s.size<=maxLen):
  Calls prog 100 #[.string s] w λe w'=>e=.returned (.int .i64 (aQ s.toList))/\Below w.heap.size w w':=by
 go_enter Tryz.func100,Tryz.ntmps100
 go_wp2_with(first
  |(go_at_call 167;refine(yT _ _).mono ?_;rintro e w' ⟨rfl,rfl⟩)
  |(go_at_call 168;refine(Am _ _ a).mono ?_;rintro e w' ⟨rfl,rfl⟩)
  |(go_at_call 169;refine(EX _ _ a).mono ?_;rintro e w' ⟨rfl,rfl⟩)
  |(go_at_call 170;refine(xL _ _).mono ?_;rintro e w' ⟨rfl,rfl⟩)
  |(go_at_call 171;refine(kI _ _ a).mono ?_;rintro e w' ⟨rfl,rfl⟩)
  |(go_at_call 172;refine(CO _ _ a).mono ?_;rintro e w' ⟨rfl,hb⟩))
 all_goals go_ret
 all_goals refine⟨iO ?_, ?_⟩
 all_goals first|exact refl _ _|assumption|(simp[aQ, *];done)
def ma(l:Bs):Nat:=if l.headD 0==39 then(if(l.drop 1).contains 39 then((l.drop 1).takeWhile (· != 39)).length+2 else 0)else 0
def dC(c:UInt8):Bool:= !eD c.toNat&& !aL c.toNat
def eO(l:Bs):Nat:=if aL (l.headD 0).toNat then 1 else ma l+((l.drop (ma l)).takeWhile dC).length
theorem Ki(l:Bs):ma l<=l.length:=by
 unfold ma;split
 ·split
  ·next h=>have:=(pV (l.drop 1) 39 h).2.1;simp at this ⊢;omega
  ·omega
 ·omega
theorem xQ(s:ByteArray)(w:World)(k:s.size<=maxLen)(d:0<s.size):
  Calls prog 166 #[.string s] w λe w'=>e=.returned (.int .i64 (ma s.toList))/\w'=w:=by
 unfold maxLen at k;have b:Hid ((s.toList.headD 0==39)=decide ((s[0].toNat:Int)=39)):=by
  rw[Hid,jc s d];exact qX _ 39 (by omega)
 by_cases h:(s[0].toNat:Int)=39
 ·have f:(s.extract 1 s.size).data.toList=s.toList.drop 1:=by rw[jD,qH]
  by_cases a:(s.toList.drop 1).contains 39=true
  ·obtain⟨j,i2,_,_⟩:=pV _ 39 a;obtain⟨n,i⟩:∃n,n=((s.toList.drop 1).takeWhile (· != 39)).length:=⟨_,rfl⟩;rw[<-i]at j i2;rw[length_drop,ai]at i2;have c:Hid (ma s.toList=n+2):=by rw[Hid,ma,b.out,decide_eq_true h,if_pos rfl,if_pos a,i]
   have g:∀w:World,Calls prog 234 #[.string (s.extract 1 s.size),.int .u8 39] w λe w'=>e=.returned (.int .i64 n)/\w'=w:=by
    intro w;rw[<-j,<-f];exact Tryz.strings_IndexByte (s.extract 1 s.size) 39 w
   clear b a f j i;go_enter Tryz.func166,Tryz.ntmps166
   go_wp2_with(go_at_call 234;refine(g _).mono ?_;rintro e w2 ⟨rfl,rfl⟩)
   go_ret;exact⟨iO (by rw[c.out];go_num),rfl⟩
  ·rw[not_eq_true]at a;have c:Hid (ma s.toList=0):=by rw[Hid,ma,b.out,decide_eq_true h,if_pos rfl,if_neg (by rw[a];simp)]
   have g:∀w:World,Calls prog 234 #[.string (s.extract 1 s.size),.int .u8 39] w λe w'=>e=.returned (.int .i64 (-1))/\w'=w:=by
    intro w;rw[<-JR _ _ a,<-f];exact Tryz.strings_IndexByte (s.extract 1 s.size) 39 w
   clear b a f;go_enter Tryz.func166,Tryz.ntmps166
   go_wp2_with(go_at_call 234;refine(g _).mono ?_;rintro e w2 ⟨rfl,rfl⟩)
   go_ret;exact⟨iO (by rw[c.out];rfl),rfl⟩
 ·have c:Hid (ma s.toList=0):=by rw[Hid,ma,b.out,decide_eq_false h];rfl
  clear b;go_enter Tryz.func166,Tryz.ntmps166
  go_wp2_with fail
  go_ret;exact⟨iO (by rw[c.out];rfl),rfl⟩
theorem RZ(s:ByteArray)(k:Nat)(h:k<s.size):(s.toList.drop k).takeWhile dC=if dC s[k]then s[k]::(s.toList.drop (k+1)).takeWhile dC else []:=by
 rw[drop_cons s k h,takeWhile_cons]
theorem Us(s:ByteArray)(k:Nat)(h:s.size<=k):(s.toList.drop k).takeWhile dC= []:=by
 rw[drop_of_length_le (by rw[ai];exact h)];rfl
theorem xP(s:ByteArray)(w:World)(p:s.size<=maxLen)(a:0<s.size):
  Calls prog 99 #[.string s] w λe w'=>e=.returned (.int .i64 (eO s.toList))/\w'=w:=by
 have o:=Ki s.toList;rw[ai]at o;obtain⟨q,b⟩:∃q,q=ma s.toList:=⟨_,rfl⟩;rw[<-b]at o;have l:∀w:World,Calls prog 166 #[.string s] w λe w'=>e=.returned (.int .i64 q)/\w'=w:=by
  intro w;rw[b];exact xQ s w p a
 by_cases h:aL s[0].toNat=true
 ·have j:Hid (eO s.toList=1):=by rw[Hid,eO,jc s a,if_pos h]
  unfold maxLen at p;clear b;go_enter Tryz.func99,Tryz.ntmps99
  go_wp2_with(go_at_call 165;refine(jd _ _).mono ?_;rintro e w2 ⟨rfl,rfl⟩)
  go_ret;exact⟨iO (by rw[j.out];rfl),rfl⟩
 ·rw[not_eq_true]at h;have j:Hid (eO s.toList=q+((s.toList.drop q).takeWhile dC).length):=by
   rw[Hid,eO,jc s a,if_neg (by rw[h];simp),b]
  unfold maxLen at p;clear b;go_enter Tryz.func99,Tryz.ntmps99
  go_wp2_with(first|(go_at_call 165;refine(jd _ _).mono ?_;rintro e w2 ⟨rfl,rfl⟩)|(go_at_call 166;refine(l _).mono ?_;rintro e w2 ⟨rfl,rfl⟩))
  go_loop [3] (λi=>∃k:Nat,k<=s.size/\i=.int .i64 k/\Hid (eO s.toList=k+((s.toList.drop k).takeWhile dC).length)) (λi=>s.size- (intOf i).toNat)
  case atStart=>exact⟨q,o,rfl,j⟩
  case round=>
   obtain⟨k,t,rfl,f⟩:=hrel;by_cases n:k<s.size
   ·have d:=RZ s k n;replace d:Hid _:=d;have g:Hid (dC s[k]=(!eD s[k].toNat&& !aL s[k].toNat)):=rfl;by_cases hb:eD s[k].toNat=true
    ·have c:Hid (eO s.toList=k):=by rw[Hid,f.out,d.out,g.out,hb];rfl
     go_wp2_with(first|(go_at_call 98;refine(jF _ _).mono ?_;rintro e w2 ⟨rfl,rfl⟩)|(go_at_call 165;refine(jd _ _).mono ?_;rintro e w2 ⟨rfl,rfl⟩))
     go_ret;exact⟨iO (by rw[c.out]),rfl⟩
    ·rw[not_eq_true]at hb;by_cases m:aL s[k].toNat=true
     ·have c:Hid (eO s.toList=k):=by rw[Hid,f.out,d.out,g.out,hb,m];rfl
      go_wp2_with(first|(go_at_call 98;refine(jF _ _).mono ?_;rintro e w2 ⟨rfl,rfl⟩)|(go_at_call 165;refine(jd _ _).mono ?_;rintro e w2 ⟨rfl,rfl⟩))
      go_ret;exact⟨iO (by rw[c.out]),rfl⟩
     ·rw[not_eq_true]at m;have c:Hid (eO s.toList=(k+1)+((s.toList.drop (k+1)).takeWhile dC).length):=by
       rw[Hid,f.out,d.out,g.out,hb,m];simp;omega
      go_wp2_with(first|(go_at_call 98;refine(jF _ _).mono ?_;rintro e w2 ⟨rfl,rfl⟩)|(go_at_call 165;refine(jd _ _).mono ?_;rintro e w2 ⟨rfl,rfl⟩))
      go_round
      case rel=>exact⟨k+1,by omega,by go_num,c⟩
      case measure=>simp[intOf];omega
   ·have r:Hid ((s.toList.drop k).takeWhile dC= []):=Us s k (by omega)
    go_wp2_with fail
    go_ret;exact⟨iO (by rw[f.out,r.out];simp),rfl⟩
abbrev Tk:=Int × Bs
def aa(l:Bs):ByteArray:=⟨l.toArray⟩
theorem aj(l:Bs):(aa l).toList=l:=vI l
theorem oD(s:ByteArray):s=aa s.toList:=by
 unfold aa;rw[ByteArray.toList_eq]
theorem aF(l:Bs):(aa l).size=l.length:=Rn l
def lJ(t:Tk):List Value:=[.int .i64 t.1,.string (aa t.2)]
def df(ts:List Tk):List Value:=ts.flatMap lJ
theorem vZ(a b:List Tk):df (a++b)=df a++df b:=by simp[df]
theorem Az(t:Tk):df [t]=lJ t:=by simp[df]
def pg:Nat->Bs->Option (List Tk)
 |0,_=>some []
 |f+1,l=>if l.length=0 then some []else if eD (l.headD 0).toNat then pg f (l.drop 1)else
   if aQ (l.take (eO l))=0 then none else(pg f (l.drop (eO l))).map ((aQ (l.take (eO l)),l.take (eO l)):: ·)
def bE(l:Bs):Option (List Tk):=pg l.length l
theorem Ps(l:Bs):eO l=1\/eO l=ma l+((l.drop (ma l)).takeWhile dC).length:=by
 unfold eO;split
 ·exact .inl rfl
 ·exact .inr rfl
theorem oW(l:Bs)(h:0<l.length)(hb:eD (l.headD 0).toNat=false):0<eO l:=by
 unfold eO;split
 ·omega
 ·next a=>
  rw[not_eq_true]at a;by_cases b:ma l=0
  ·rw[b]
   cases l with
   |nil=>simp at h
   |cons c r=>
    have:dC c=true:=by simp only[List.headD_cons]at hb a;simp[dC,hb,a]
    rw[List.drop_zero,takeWhile_cons,this];simp
  ·omega
theorem Db(l:Bs)(h:0<l.length):eO l<=l.length:=by
 rcases Ps l with e|e
 ·omega
 ·have:=Qc (l.drop (ma l)) dC;have a:=Ki l;rw[length_drop]at this;omega
theorem zM:∀(f:Nat) (l:Bs),l.length<=f->pg f l=bE l:=by
 have b:∀(n f g:Nat) (l:Bs),l.length<=n->l.length<=f->l.length<=g->pg f l=pg g l:=by
  intro n
  induction n with
  |zero=>
   intro f g l h _ _;have a:l.length=0:=by omega
   cases f<;>cases g<;>simp[pg,a]
  |succ n ih=>
   intro f g l h c d
   cases f with
   |zero=>
    have a:l.length=0:=by omega
    cases g<;>simp[pg,a]
   |succ f=>
    cases g with
    |zero=>
     have a:l.length=0:=by omega
     simp[pg,a]
    |succ g=>
     rw[pg,pg];by_cases a:l.length=0
     ·rw[if_pos a,if_pos a]
     ·rw[if_neg a,if_neg a]
      cases hb:eD (l.headD 0).toNat with
      |true=>rw[if_pos rfl,if_pos rfl];exact ih f g _ (by simp;omega) (by simp;omega) (by simp;omega)
      |false=>
       have e:=oW l (by omega) hb;rw[if_neg Bool.false_ne_true,if_neg Bool.false_ne_true,ih f g (l.drop (eO l)) (by simp;omega) (by simp;omega) (by simp;omega)]
 intro f l h;exact b l.length f l.length l (le_refl _) h (le_refl _)
theorem kN(l:Bs)(h:l.length=0):bE l=some []:=by rw[bE,h,pg]
theorem pq(l:Bs)(h:0<l.length):bE l=if eD (l.headD 0).toNat then bE (l.drop 1)else
   if aQ (l.take (eO l))=0 then none else(bE (l.drop (eO l))).map ((aQ (l.take (eO l)),l.take (eO l)):: ·):=by
 obtain⟨n,a⟩:∃n,l.length=n+1:=⟨l.length- 1,by omega⟩;rw[bE,a,pg,if_neg (by omega)]
 cases hb:eD (l.headD 0).toNat with
 |true=>rw[if_pos rfl,if_pos rfl];exact zM _ _ (by simp;omega)
 |false=>
  have b:=oW l (by omega) hb;rw[if_neg Bool.false_ne_true,if_neg Bool.false_ne_true,zM n (l.drop (eO l)) (by simp;omega)]
theorem xM(o:Option (List Tk))(a:List Tk)(t:Tk):(o.map (t:: ·)).map (a++ ·)=o.map ((a++ [t])++ ·):=by
 cases o<;>simp
theorem Ap{w w':World}{a n:Nat}{e:TypeId}{size:Nat}{v:Value}{b:List Value}(h:w.ownsRow a e size v n b)(hb:Below w.heap.size w w'):w'.ownsRow a e size v n b:=
 h.kept (row:=none) ⟨hb.os,hb.tape,hb.output,hb.size,λk c _=>hb.block k c⟩ (by
  cases d:v.ownBlock with
  |none=>exact .inl rfl
  |some k=>exact .inr (by simp))
theorem QW:(Tryz.prog.info? 93).map (λi=>(i.zero,i.size,i.bytes))=some (some (.agg #[.int .i64 0,.string ⟨#[]⟩]),2,24):=by kernel_rfl
theorem PI(i:ByteArray)(w:World)(C:i.size<=400):
  Calls prog 54 #[.string i] w λe w'=>Below w.heap.size w w'/\
   ((bE i.toList=none/\e=.returned (.tuple #[.slice none 0 0,.bool false]))\/
    (∃d v,bE i.toList=some d/\d.length<=400/\e=.returned (.tuple #[v,.bool true])/\w'.ownsRow w.heap.size 93 2 v d.length (df d))):=by
 obtain⟨i0,P,E,F,x⟩:=info_parts QW;go_enter Tryz.func54,Tryz.ntmps54
 go_wp2_with fail
 go_loopw [0,4] (λG U wr=>∃(s:ByteArray) (d:List Tk),G=.string s/\s.size+d.length<=400/\wr.ownsRow w.heap.size 93 2 U d.length (df d)/\Below w.heap.size w wr/\Hid (bE i.toList=(bE s.toList).map (d++ ·))) (λG _ _=>match G with| .string s=>s.size|_=>0)
 case atStart=>exact⟨i,[],rfl,by simpa using C,World.ownsRow_nil _ _ _ _,refl _ _,by rw[Hid];simp⟩
 case round=>
  obtain⟨s,d,rfl,I,f,a,y⟩:=hrel;have S:s.size<=400:=by omega
  have D:s.size<=maxLen:=by unfold maxLen;omega
  by_cases O:s.size=0
  ·have L:Hid (bE i.toList=some d):=by rw[Hid,y.out,kN _ (by rw[ai,O])];simp
   go_wp2_with fail
   go_ret2;exact⟨a,.inr ⟨d,_,L.out,by omega,rfl,f⟩⟩
  ·have c:0<s.size:=by omega
   have q:=pq s.toList (by rw[ai];exact c);rw[jc s c]at q;replace q:Hid _:=q;by_cases hb:eD s[0].toNat=true
   ·have M:Hid (bE i.toList=(bE (s.extract 1 s.size).toList).map (d++ ·)):=by
     rw[Hid,y.out,q.out,if_pos hb,qH]
    go_wp2_with(go_at_call 98;refine(jF _ _).mono ?_;rintro e w2 ⟨rfl,rfl⟩)
    go_roundw
    case rel=>exact⟨s.extract 1 s.size,d,rfl,by simp;omega,f,a,M⟩
    case measure=>simp;omega
   ·rw[not_eq_true]at hb;have B:=oW s.toList (by rw[ai];exact c) (by rw[jc s c];exact hb);have t:=Db s.toList (by rw[ai];exact c);rw[ai]at t;obtain⟨n,z⟩:∃n,n=eO s.toList:=⟨_,rfl⟩;have m:∀w:World,Calls prog 99 #[.string s] w λe w'=>e=.returned (.int .i64 n)/\w'=w:=by
     intro w;rw[z];exact xP s w D c
    obtain⟨k,r⟩:∃k,k=aQ (s.toList.take n):=⟨_,rfl⟩;have l:∀w:World,Calls prog 100 #[.string (s.extract 0 n)] w λe w'=>e=.returned (.int .i64 k)/\Below w.heap.size w w':=by
     intro w;rw[r,<-uu];exact IP _ _ (by simp;unfold maxLen;omega)
    have o:Hid (bE i.toList=if k=0 then none else(bE (s.extract n s.size).toList).map ((d++ [(k,s.toList.take n)])++ ·)):=by
     rw[Hid,y.out,q.out,if_neg (by rw[hb];simp),<-z,<-r,qH];by_cases b:k=0
     ·rw[if_pos b,if_pos b];rfl
     ·rw[if_neg b,if_neg b,xM]
    rw[<-z]at B t;have H:Hid (Value.string (s.extract 0 n)=.string (aa (s.toList.take n))):=by
     rw[Hid];congr 1;rw[<-uu];exact oD _
    clear y q z r;by_cases b:k=0
    ·have A:Hid (bE i.toList=none):=by rw[Hid,o.out,if_pos b]
     subst b
     go_wp2_with(first|(go_at_call 98;refine(jF _ _).mono ?_;rintro e w2 ⟨rfl,rfl⟩)|(go_at_call 99;refine(m _).mono ?_;rintro e w2 ⟨rfl,rfl⟩)|(go_at_call 100;refine(l _).mono ?_;rintro e w2 ⟨rfl,hb2⟩))
     go_ret2;exact⟨a.trans (hb2.mono a.size),.inl ⟨A.out,rfl⟩⟩
    ·have A:Hid (bE i.toList=(bE (s.extract n s.size).toList).map ((d++ [(k,s.toList.take n)])++ ·)):=by rw[Hid,o.out,if_neg b]
     clear o;have Q:(k==0)=false:=by simpa using b
     clear b
     go_wp2_with(first
      |(go_at_call 98;refine(jF _ _).mono ?_;rintro e w2 ⟨rfl,rfl⟩)
      |(go_at_call 99;refine(m _).mono ?_;rintro e w2 ⟨rfl,rfl⟩)
      |(go_at_call 100;refine(l _).mono ?_;rintro e w2 ⟨rfl,hb2⟩)
      |(at_builtin;refine wpList_append_own _ rfl (.tmp 23) (.tmp 27) 166 rfl w.heap.size 93 i0 (.agg #[.int .i64 0,.string ⟨#[]⟩]) 2 24 Tryz.underlying166 P E F x rfl (by decide) _ _ _ rfl ((Ap f hb2).alloc _) ⟨w2.heap.size,0,none⟩ 1 1 [.int .i64 k,.string (s.extract 0 n)] rfl rfl ?c1 ?c2 ?c3 ?c4 ?c5 ?_))
     case c1=>
      intro j u p
      match j,p with
      |0,p=>simp at p;subst p;simp[Addr.add]
      |1,p=>simp at p;subst p;simp[Addr.add]
     case c2=>intro u J;simp at J;rcases J with rfl|rfl<;>rfl
     case c3=>unfold maxLen;omega
     case c4=>omega
     case c5=>have:=a.size;have:=hb2.size;simp;omega
     ·intro v' K h g _;have R:K.ownsRow w.heap.size 93 2 v' (d++ [(k,s.toList.take n)]).length (df (d++ [(k,s.toList.take n)])):=by
       rw[vZ,Az,lJ,<-H.out];simpa using h
      have T:=a.size;have x:=hb2.size;have N:Below w.heap.size w K:=((a.trans (hb2.mono T)).alloc (by omega) _).grown g (by simp;omega) (λk r=>(f.lt k r).1);clear h g f hb2 m l H
      go_wp2
      go_roundw
      case rel=>exact⟨s.extract n s.size,_,rfl,by simp;omega,R,N,A⟩
      case measure=>simp;omega
end Go.Proofs.YtdifpeaklamhnaaGreatDoor
