import Derived.WalkSpells
import Derived.WalkLawsBesides
import Derived.Test.YtdifpeaklamhnaaGreatDoorShelfNZ
set_option linter.unusedVariables false
set_option linter.unusedSimpArgs false
set_option maxRecDepth 100000
set_option maxHeartbeats 0
namespace Go.Proofs.YtdifpeaklamhnaaGreatDoor
open Go.Proofs.Tryz
open Go.RowKit
open Below (refl drew heap_setCell heap_alloc)
open World (cell? setCell frozen?)
open Nat (le_refl le_trans)
open Bool (not_eq_true)
open List (drop_of_length_le takeWhile_cons length_drop length_cons)
def eF(c:Int):Bool:=c==32||c==9||c==10
def aM(c:Int):Bool:=c==40||c==41
def bQ(c:Int):Bool:=decide (48<=c)&&decide (c<=57)
def eB(c:Int):Bool:=decide (97<=c)&&decide (c<=122)
abbrev Bs:=List UInt8
def jD(l:Bs):Bool:=l== [43]||l== [45]||l== [42]||l== [47]||l== [61]||l== [60]||l== [60,61]
def iX(l:Bs):Bool:=l== [116,114,117,101]||l== [102,97,108,115,101]||l== [117,115,101,114]
def zK(c:UInt8):Bool:=eB c.toNat||bQ c.toNat
def aU(l:Bs):Bool:=decide (0<l.length)&&decide (l.length<=12)&&eB (l.headD 0).toNat&&l.all zK
def iC(l:Bs):Bool:=decide (l.length=2)&&(l.headD 0==36)&&bQ (l.getD 1 0).toNat&& !(l.getD 1 0==48)
def bO:Bs->Int->Bool
 | [],_=>true
 |c::r,n=>bQ c.toNat&&decide (n*10+(c.toNat- 48)<=1000000000)&&bO r (n*10+(c.toNat- 48))
def aX(l:Bs):Bs:=if l.headD 0==45 then l.drop 1 else l
def dK(l:Bs):Bool:=l== [48]||(decide (0<(aX l).length)&& !((aX l).headD 0==48)&&bO (aX l) 0)
def qR(c:UInt8):Bool:=decide (32<=c.toNat)&&decide (c.toNat<=126)&& !(c==39)
def cB(l:Bs):Bool:=decide (2<=l.length)&&decide (l.length<=32)&&(l.getD 0 0==39)&&(l.getD (l.length- 1) 0==39)&&((l.take (l.length- 1)).drop 1).all qR
def iV(l:Bs):Bool:=l.contains 46&&aU (l.takeWhile (· != 46))&&aU ((l.dropWhile (· != 46)).drop 1)
def aT(l:Bs):Int:=
 if l== [40]then 1 else if l== [41]then 2 else if jD l then 8 else if dK l then 3 else if cB l then 4
 else if iC l then 7 else if aU l then 5 else if iV l then 6 else 0
theorem ah(s:ByteArray):s.toList.length=s.size:=by rw[ByteArray.toList_eq];simp
theorem ed(s:ByteArray)(k:Nat)(h:k<s.size):s.toList[k]'(by rw[ah];exact h)=s[k]:=by
 simp only[ByteArray.toList_eq];rfl
theorem drop_cons(s:ByteArray)(k:Nat)(h:k<s.size):s.toList.drop k=s[k]::s.toList.drop (k+1):=by
 rw[List.drop_eq_getElem_cons (by rw[ah];exact h),ed s k h]
theorem rC(s:ByteArray)(h:s.size=0):s.toList.isEmpty=true:=by
 rw[List.isEmpty_iff_length_eq_zero,ah,h]
theorem oJ(s:ByteArray)(h:0<s.size):s.toList.isEmpty=false:=by
 rw[Bool.eq_false_iff];intro e;rw[List.isEmpty_iff_length_eq_zero,ah]at e;omega
theorem ja(s:ByteArray)(h:0<s.size):s.toList.headD 0=s[0]:=by
 have:=drop_cons s 0 h;rw[List.drop_zero]at this;rw[this];rfl
theorem uC(s:ByteArray)(k:Nat)(h:k<s.size):s.toList.getD k 0=s[k]:=by
 rw[List.getD_eq_getElem?_getD,List.getElem?_eq_getElem (by rw[ah];exact h),ed s k h];rfl
theorem uj(f:UInt8->Bool)(s:ByteArray)(k:Nat)(h:k<s.size):(s.toList.drop k).all f=(f s[k]&&(s.toList.drop (k+1)).all f):=by
 rw[drop_cons s k h];rfl
theorem xV(f:UInt8->Bool)(s:ByteArray)(k:Nat)(h:s.size<=k):(s.toList.drop k).all f=true:=by
 rw[drop_of_length_le (by rw[ah];exact h)];rfl
theorem Qq(s:ByteArray)(h:0<s.size)(a:s.size<=12):aU s.toList=(eB s[0].toNat&&s.toList.all zK):=by
 unfold aU;rw[ah,ja s h];simp[h,a]
theorem ay{a b:Bool}(h:a=b):Ending.returned (.bool a)=.returned (.bool b):=by rw[h]
theorem iL{k:IntKind}{a b:Int}(h:a=b):Ending.returned (.int k a)=.returned (.int k b):=by rw[h]
theorem jC(c:Int)(w:World):
  Calls prog 98 #[.int .u8 c] w λe w'=>e=.returned (.bool (eF c))/\w'=w:=by
 go_enter Tryz.func98,Tryz.ntmps98
 go_wp2
 all_goals go_ret
 all_goals(refine⟨ay ?_,rfl⟩;simp[eF, *])
theorem jb(c:Int)(w:World):
  Calls prog 165 #[.int .u8 c] w λe w'=>e=.returned (.bool (aM c))/\w'=w:=by
 go_enter Tryz.func165,Tryz.ntmps165
 go_wp2
 all_goals go_ret
 all_goals(refine⟨ay ?_,rfl⟩;simp[aM, *])
theorem fJ(c:Int)(w:World):
  Calls prog 236 #[.int .u8 c] w λe w'=>e=.returned (.bool (bQ c))/\w'=w:=by
 go_enter Tryz.func236,Tryz.ntmps236
 go_wp2
 all_goals go_ret
 all_goals(refine⟨ay ?_,rfl⟩;simp[bQ]<;>omega)
theorem jN(c:Int)(w:World):
  Calls prog 237 #[.int .u8 c] w λe w'=>e=.returned (.bool (eB c))/\w'=w:=by
 go_enter Tryz.func237,Tryz.ntmps237
 go_wp2
 all_goals go_ret
 all_goals(refine⟨ay ?_,rfl⟩;simp[eB]<;>omega)
theorem yN(s:ByteArray)(w:World):
  Calls prog 167 #[.string s] w λe w'=>e=.returned (.bool (jD s.toList))/\w'=w:=by
 go_enter Tryz.func167,Tryz.ntmps167
 go_wp2
 all_goals go_ret
 all_goals(refine⟨ay ?_,rfl⟩;simp_all[jD])
theorem jY(s:ByteArray)(w:World)(r:s.size<=maxLen):
  Calls prog 171 #[.string s] w λe w'=>e=.returned (.bool (aU s.toList))/\w'=w:=by
 unfold maxLen at r;by_cases o:s.size=0
 ·have q:=rC s o;have h:Hid (aU s.toList=false):=by simp[Hid,aU,ah,o]
  go_enter Tryz.func171,Tryz.ntmps171
  go_wp2_with fail
  go_ret;exact⟨ay h.out.symm,rfl⟩
 ·have b:0<s.size:=by omega
  have q:=oJ s b;by_cases d:s.size<=12
  ·have l:Hid (aU s.toList=(eB s[0].toNat&&s.toList.all zK)):=Qq s b d;by_cases m:eB s[0].toNat=true
   ·go_enter Tryz.func171,Tryz.ntmps171
    go_wp2_with(first|(go_at_call 237;refine(jN _ _).mono ?_;rintro e w' ⟨rfl,rfl⟩))
    go_loop [19] (λi=>∃k:Nat,k<=s.size/\i=.int .i64 k/\Hid (s.toList.all zK=(s.toList.drop k).all zK)) (λi=>s.size- (intOf i).toNat)
    case atStart=>exact⟨0,Nat.zero_le _,rfl,rfl⟩
    case round=>
     obtain⟨k,t,rfl,f⟩:=hrel;by_cases n:k<s.size
     ·have j:Hid ((s.toList.drop k).all zK=(zK s[k]&&(s.toList.drop (k+1)).all zK)):=uj zK s k n;have g:Hid (zK s[k]=(eB s[k].toNat||bQ s[k].toNat)):=rfl;by_cases a:eB s[k].toNat=true
      ·go_wp2_with(first|(go_at_call 237;refine(jN _ _).mono ?_;rintro e w' ⟨rfl,rfl⟩)|(go_at_call 236;refine(fJ _ _).mono ?_;rintro e w' ⟨rfl,rfl⟩))
       go_round
       case rel=>exact⟨k+1,by omega,by go_num,by rw[Hid,f.out,j.out,g.out,a];rfl⟩
       case measure=>simp[intOf];omega
      ·rw[not_eq_true]at a;by_cases c:bQ s[k].toNat=true
       ·go_wp2_with(first|(go_at_call 237;refine(jN _ _).mono ?_;rintro e w' ⟨rfl,rfl⟩)|(go_at_call 236;refine(fJ _ _).mono ?_;rintro e w' ⟨rfl,rfl⟩))
        go_round
        case rel=>exact⟨k+1,by omega,by go_num,by rw[Hid,f.out,j.out,g.out,a,c];rfl⟩
        case measure=>simp[intOf];omega
       ·rw[not_eq_true]at c
        go_wp2_with(first|(go_at_call 237;refine(jN _ _).mono ?_;rintro e w' ⟨rfl,rfl⟩)|(go_at_call 236;refine(fJ _ _).mono ?_;rintro e w' ⟨rfl,rfl⟩))
        go_ret;exact⟨ay (by rw[l.out,f.out,j.out,g.out,a,c];simp),rfl⟩
     ·have p:Hid ((s.toList.drop k).all zK=true):=xV zK s k (by omega)
      go_wp2_with fail
      go_ret;exact⟨ay (by rw[l.out,f.out,p.out,m];rfl),rfl⟩
   ·rw[not_eq_true]at m;go_enter Tryz.func171,Tryz.ntmps171
    go_wp2_with(first|(go_at_call 237;refine(jN _ _).mono ?_;rintro e w' ⟨rfl,rfl⟩))
    go_ret;exact⟨ay (by rw[l.out,m];rfl),rfl⟩
  ·have h:Hid (aU s.toList=false):=by simp[Hid,aU,ah,d]
   go_enter Tryz.func171,Tryz.ntmps171
   go_wp2_with fail
   go_ret;exact⟨ay h.out.symm,rfl⟩
theorem qY(c:UInt8)(n:Nat)(a:n<256):(c==UInt8.ofNat n)=decide ((c.toNat:Int)=n):=by
 rw[Bool.eq_iff_iff];simp only[beq_iff_eq,decide_eq_true_eq];constructor
 ·rintro rfl;simp;omega
 ·intro h;apply UInt8.toNat_inj.mp;simp;omega
theorem BS(a b:Int):(a != b)= !decide (a=b):=by
 rw[Bool.eq_iff_iff];simp
theorem KA(s:ByteArray)(h:s.size=2):iC s.toList=(decide ((s[0].toNat:Int)=36)&&bQ s[1].toNat&& !decide ((s[1].toNat:Int)=48)):=by
 unfold iC;rw[ah,ja s (by omega),uC s 1 (by omega)];rw[show(36:UInt8)=UInt8.ofNat 36 from rfl,show(48:UInt8)=UInt8.ofNat 48 from rfl,qY _ 36 (by omega),qY _ 48 (by omega)];simp[h]
theorem xJ(s:ByteArray)(w:World):
  Calls prog 170 #[.string s] w λe w'=>e=.returned (.bool (iC s.toList))/\w'=w:=by
 by_cases c:s.size=2
 ·have a:Hid (iC s.toList=(decide ((s[0].toNat:Int)=36)&&bQ s[1].toNat&& !decide ((s[1].toNat:Int)=48))):=KA s c;by_cases d:(s[0].toNat:Int)=36
  ·by_cases b:bQ s[1].toNat=true
   ·go_enter Tryz.func170,Tryz.ntmps170
    go_wp2_with(first|(go_at_call 236;refine(fJ _ _).mono ?_;rintro e w' ⟨rfl,rfl⟩))
    go_ret;exact⟨ay (by rw[a.out,d,b];simp[BS]),rfl⟩
   ·rw[not_eq_true]at b;go_enter Tryz.func170,Tryz.ntmps170
    go_wp2_with(first|(go_at_call 236;refine(fJ _ _).mono ?_;rintro e w' ⟨rfl,rfl⟩))
    go_ret;exact⟨ay (by rw[a.out,b];simp),rfl⟩
  ·go_enter Tryz.func170,Tryz.ntmps170
   go_wp2_with(first|(go_at_call 236;refine(fJ _ _).mono ?_;rintro e w' ⟨rfl,rfl⟩))
   go_ret;exact⟨ay (by rw[a.out];simp[d]),rfl⟩
 ·have a:Hid (iC s.toList=false):=by simp[Hid,iC,ah,c]
  go_enter Tryz.func170,Tryz.ntmps170
  go_wp2_with fail
  go_ret;exact⟨ay a.out.symm,rfl⟩
theorem FW(s:ByteArray)(k:Nat)(h:k<s.size- 1):
  ((s.toList.take (s.size- 1)).drop k).all qR=(qR (s[k]'(by omega))&&((s.toList.take (s.size- 1)).drop (k+1)).all qR):=by
 have a:(s.toList.take (s.size- 1)).length=s.size- 1:=by rw[List.length_take,ah];omega
 rw[List.drop_eq_getElem_cons (by omega)];simp only[List.all_cons,List.getElem_take,ed s k (by omega)]
theorem KH(s:ByteArray)(k:Nat)(h:s.size- 1<=k):((s.toList.take (s.size- 1)).drop k).all qR=true:=by
 rw[drop_of_length_le (by rw[List.length_take,ah];omega)];rfl
theorem Be(s:ByteArray)(h:2<=s.size)(a:s.size<=32):cB s.toList=
  (decide ((s[0].toNat:Int)=39)&&decide ((s[s.size- 1].toNat:Int)=39)&&((s.toList.take (s.size- 1)).drop 1).all qR):=by
 unfold cB;rw[ah,uC s 0 (by omega),uC s (s.size- 1) (by omega)];rw[show(39:UInt8)=UInt8.ofNat 39 from rfl,qY _ 39 (by omega),qY _ 39 (by omega)];simp[h,a]
theorem KG(c:UInt8):qR c=(!decide ((c.toNat:Int)<32)&& !decide ((126:Int)<c.toNat)&& !decide ((c.toNat:Int)=39)):=by
 unfold qR;rw[show(39:UInt8)=UInt8.ofNat 39 from rfl,qY _ 39 (by omega)];rw[Bool.eq_iff_iff];simp;omega
theorem EU(s:ByteArray)(w:World)(x:s.size<=maxLen):
  Calls prog 169 #[.string s] w λe w'=>e=.returned (.bool (cB s.toList))/\w'=w:=by
 unfold maxLen at x;by_cases j:2<=s.size/\s.size<=32
 ·obtain⟨j,l⟩:=j;have a:=Be s j l;replace a:Hid _:=a;by_cases d:(s[0].toNat:Int)=39/\(s[s.size- 1].toNat:Int)=39
  ·obtain⟨d,g⟩:=d;go_enter Tryz.func169,Tryz.ntmps169
   go_wp2_with fail
   go_loop [3] (λi=>∃k:Nat,1<=k/\k<=s.size- 1/\i=.int .i64 k/\Hid (((s.toList.take (s.size- 1)).drop 1).all qR=((s.toList.take (s.size- 1)).drop k).all qR)) (λi=>s.size- (intOf i).toNat)
   case atStart=>exact⟨1,by omega,by omega,rfl,rfl⟩
   case round=>
    obtain⟨k,u,z,rfl,f⟩:=hrel;by_cases m:k<s.size- 1
    ·have v:k<s.size:=by omega
     have c:=FW s k m;replace c:Hid _:=c;have b:=KG s[k];replace b:Hid _:=b;by_cases o:(s[k].toNat:Int)<32
     ·go_wp2_with fail
      go_ret;exact⟨ay (by rw[a.out,f.out,c.out,b.out];simp[o]),rfl⟩
     ·by_cases hb:(126:Int)<s[k].toNat
      ·go_wp2_with fail
       go_ret;exact⟨ay (by rw[a.out,f.out,c.out,b.out];simp[hb]),rfl⟩
      ·by_cases p:(s[k].toNat:Int)=39
       ·go_wp2_with fail
        go_ret;exact⟨ay (by rw[a.out,f.out,c.out,b.out];simp[p]),rfl⟩
       ·have q:Hid (qR s[k]=true):=by rw[Hid,b.out];simp[o,hb,p]
        go_wp2_with fail
        go_round
        case rel=>exact⟨k+1,by omega,by omega,by go_num,by rw[Hid,f.out,c.out,q.out];rfl⟩
        case measure=>simp[intOf];omega
    ·have r:Hid (((s.toList.take (s.size- 1)).drop k).all qR=true):=KH s k (by omega)
     go_wp2_with fail
     go_ret;exact⟨ay (by rw[a.out,f.out,r.out,d,g];simp),rfl⟩
  ·by_cases g:(s[0].toNat:Int)=39
   ·have n:Hid (¬(s[s.size- 1].toNat:Int)=39):=λh=>d ⟨g,h⟩;have t:((s[s.size- 1].toNat:Int) != 39)=true:=by rw[BS,decide_eq_false n.out];rfl
    clear d;go_enter Tryz.func169,Tryz.ntmps169
    go_wp2_with fail
    go_ret;exact⟨ay (by rw[a.out,decide_eq_false n.out];simp),rfl⟩
   ·clear d;go_enter Tryz.func169,Tryz.ntmps169
    go_wp2_with fail
    go_ret;exact⟨ay (by rw[a.out];simp[g]),rfl⟩
 ·have a:Hid (cB s.toList=false):=by
   simp only[Hid,cB,ah];simp;omega
  by_cases t:s.size<2
  ·go_enter Tryz.func169,Tryz.ntmps169
   go_wp2_with fail
   go_ret;exact⟨ay a.out.symm,rfl⟩
  ·have y:32<s.size:=by omega
   go_enter Tryz.func169,Tryz.ntmps169
   go_wp2_with fail
   go_ret;exact⟨ay a.out.symm,rfl⟩
theorem gW(s:ByteArray)(w:World):
  Calls prog 175 #[.string s] w λe w'=>e=.returned (.bool (iX s.toList))/\Below w.heap.size w w':=by
 go_enter Tryz.func175,Tryz.ntmps175
 go_wp2
 all_goals go_ret
 all_goals(refine⟨ay ?_,refl _ _⟩;simp_all[iX])
def fZ(k:Int)(l:Bs):Bool:=k==3||k==4||k==6||k==7||iX l
def jU(k:Int)(l:Bs):Bool:=k==8||(k==5&& !iX l)
theorem lF(k:Int)(s:ByteArray)(w:World):
  Calls prog 103 #[.agg #[.int .i64 k,.string s]] w λe w'=>e=.returned (.bool (fZ k s.toList))/\Below w.heap.size w w':=by
 go_enter Tryz.func103,Tryz.ntmps103
 go_wp2_with(first|(go_at_call 175;refine(gW _ _).mono ?_;rintro e w' ⟨rfl,hb⟩))
 all_goals go_ret
 all_goals first
  |(refine⟨ay ?_,(refl _ _).alloc (le_refl _) _⟩;simp_all[fZ];done)
  |(refine⟨ay ?_,((refl _ _).alloc (le_refl _) _).trans (hb.mono (by simp))⟩;simp_all[fZ])
theorem sQ(k:Int)(s:ByteArray)(w:World):
  Calls prog 173 #[.agg #[.int .i64 k,.string s]] w λe w'=>e=.returned (.bool (jU k s.toList))/\Below w.heap.size w w':=by
 by_cases b:k=8
 ·subst b;go_enter Tryz.func173,Tryz.ntmps173
  go_wp2_with(first|(go_at_call 175;refine(gW _ _).mono ?_;rintro e w' ⟨rfl,hb⟩))
  go_ret;exact⟨ay (by simp[jU]),(refl _ _).alloc (le_refl _) _⟩
 ·by_cases a:k=5
  ·subst a;go_enter Tryz.func173,Tryz.ntmps173
   go_wp2_with(first|(go_at_call 175;refine(gW _ _).mono ?_;rintro e w' ⟨rfl,hb⟩))
   go_ret;exact⟨ay (by simp[jU]),((refl _ _).alloc (le_refl _) _).trans (hb.mono (by simp))⟩
  ·go_enter Tryz.func173,Tryz.ntmps173
   go_wp2_with(first|(go_at_call 175;refine(gW _ _).mono ?_;rintro e w' ⟨rfl,hb⟩))
   go_ret;exact⟨ay (by simp[jU,b,a]),(refl _ _).alloc (le_refl _) _⟩
theorem jA(s:ByteArray):s.data.toList=s.toList:=(ByteArray.toList_eq s).symm
theorem JG(s:ByteArray):Lib.trimPrefix s.data.toList [45]=aX s.toList:=by
 rw[jA];generalize s.toList=l
 cases l with
 |nil=>rfl
 |cons c r=>
  by_cases h:c=45
  ·subst h;rfl
  ·have a:aX (c::r)=c::r:=by unfold aX;rw[if_neg];simpa using h
   have b:Lib.trimPrefix (c::r) [45]=c::r:=by
    unfold Lib.trimPrefix Lib.hasPrefix;rw[if_neg];simpa[List.isPrefixOf]using(λe=>h (Eq.symm e))
   rw[a,b]
theorem Hd(l:Bs):(aX l).length<=l.length:=by unfold aX;split<;>simp
theorem vG(l:Bs):(ByteArray.mk l.toArray).toList=l:=ByteArray.toList_mk l
theorem Rn(l:Bs):(ByteArray.mk l.toArray).size=l.length:=by rw[<-ah,vG]
theorem Cz(s:ByteArray)(k:Nat)(n:Int)(h:k<s.size):bO (s.toList.drop k) n=
  (bQ s[k].toNat&&decide (n*10+(s[k].toNat- 48)<=1000000000)&&bO (s.toList.drop (k+1)) (n*10+(s[k].toNat- 48))):=by
 rw[drop_cons s k h,bO]
theorem FI(s:ByteArray)(k:Nat)(n:Int)(h:s.size<=k):bO (s.toList.drop k) n=true:=by
 rw[drop_of_length_le (by rw[ah];exact h),bO]
theorem jW{c:Int}(h:bQ c=true):48<=c/\c<=57:=by
 unfold bQ at h;simpa using h
theorem zX(s:ByteArray)(w:World)(F:s.size<=maxLen):
  Calls prog 168 #[.string s] w λe w'=>e=.returned (.bool (dK s.toList))/\w'=w:=by
 unfold maxLen at F;by_cases q:(s.toList== [48])=true
 ·have h:Hid (dK s.toList=true):=by rw[Hid,dK,q];rfl
  go_enter Tryz.func168,Tryz.ntmps168
  go_wp2_with fail
  go_ret;exact⟨ay h.out.symm,rfl⟩
 ·rw[not_eq_true]at q;obtain⟨d,r⟩:∃d:ByteArray,d=⟨(Lib.trimPrefix s.data.toList [45]).toArray⟩:=⟨_,rfl⟩;have v:Hid (aX s.toList=d.toList):=by rw[Hid,r,JG];exact(vG _).symm
  have C:d.size<=s.size:=by rw[<-ah,<-v.out,<-ah s];exact Hd _
  have p:∀w:World,Calls prog 235 #[.string s,.string ⟨#[45]⟩] w λe w'=>e=.returned (.string d)/\w'=w:=by
   intro w;rw[r];exact Tryz.strings_TrimPrefix s ⟨#[45]⟩ w
  clear r;have h:Hid (dK s.toList=(decide (0<d.toList.length)&& !(d.toList.headD 0==48)&&bO d.toList 0)):=by
   rw[Hid,dK,q,v.out];rfl
  by_cases l:d.size=0
  ·have A:=rC d l;go_enter Tryz.func168,Tryz.ntmps168
   go_wp2_with(go_at_call 235;refine(p _).mono ?_;rintro e w' ⟨rfl,rfl⟩)
   go_ret;exact⟨ay (by rw[h.out,ah];simp[l]),rfl⟩
  ·have a:0<d.size:=by omega
   have A:=oJ d a;have o:Hid ((d.toList.headD 0==48)=decide ((d[0].toNat:Int)=48)):=by
    rw[Hid,ja d a];exact qY _ 48 (by omega)
   by_cases b:(d[0].toNat:Int)=48
   ·go_enter Tryz.func168,Tryz.ntmps168
    go_wp2_with(go_at_call 235;refine(p _).mono ?_;rintro e w' ⟨rfl,rfl⟩)
    go_ret;exact⟨ay (by rw[h.out,o.out];simp[b]),rfl⟩
   ·have g:Hid (dK s.toList=bO d.toList 0):=by
     rw[Hid,h.out,o.out,ah];simp[b,a]
    clear h o;have x:((d[0].toNat:Int)==48)=false:=by simpa using b
    clear b;go_enter Tryz.func168,Tryz.ntmps168
    go_wp2_with(go_at_call 235;refine(p _).mono ?_;rintro e w' ⟨rfl,rfl⟩)
    go_loop [4,19] (λt i=>∃(k:Nat) (n:Int),k<=d.size/\i=.int .i64 k/\t=.int .i64 n/\0<=n/\n<=1000000000/\Hid (bO d.toList 0=bO (d.toList.drop k) n)) (λ_ i=>d.size- (intOf i).toNat)
    case atStart=>exact⟨0,0,Nat.zero_le _,rfl,rfl,by omega,by omega,rfl⟩
    case round=>
     obtain⟨k,n,G,rfl,rfl,D,E,m⟩:=hrel;by_cases u:k<d.size
     ·have j:=Cz d k n u;replace j:Hid _:=j;by_cases c:bQ d[k].toNat=true
      ·have B:=jW c;by_cases f:n*10+(d[k].toNat- 48)<=1000000000
       ·go_wp2_with(first|(go_at_call 236;refine(fJ _ _).mono ?_;rintro e w' ⟨rfl,rfl⟩))
        go_round
        case rel=>exact⟨k+1,n*10+(d[k].toNat- 48),by omega,by go_num,by go_num,by omega,by omega,by rw[Hid,m.out,j.out,c,decide_eq_true f];rfl⟩
        case measure=>simp[intOf];omega
       ·have y:Hid (decide (n*10+(d[k].toNat- 48)<=1000000000)=false):=decide_eq_false f
        go_wp2_with(first|(go_at_call 236;refine(fJ _ _).mono ?_;rintro e w' ⟨rfl,rfl⟩))
        go_ret;exact⟨ay (by rw[g.out,m.out,j.out,y.out];simp),rfl⟩
      ·rw[not_eq_true]at c
       go_wp2_with(first|(go_at_call 236;refine(fJ _ _).mono ?_;rintro e w' ⟨rfl,rfl⟩))
       go_ret;exact⟨ay (by rw[g.out,m.out,j.out,c];rfl),rfl⟩
     ·have z:Hid (bO (d.toList.drop k) n=true):=FI d k n (by omega)
      go_wp2_with fail
      go_ret;exact⟨ay (by rw[g.out,m.out,z.out]),rfl⟩
theorem Kl(l:Bs)(c:UInt8)(h:l.contains c=false):Lib.indexByte l c= -1:=by
 induction l with
 |nil=>rfl
 |cons b r ih=>
  simp only[List.contains_cons,Bool.or_eq_false_iff]at h;have hb:(b==c)=false:=by
   have:=h.1;rw[beq_eq_false_iff_ne]at this ⊢;exact λe=>this e.symm
  rw[Lib.indexByte,hb,ih h.2];rfl
theorem pK(l:Bs)(c:UInt8)(h:l.contains c=true):Lib.indexByte l c=(l.takeWhile (· != c)).length/\
  (l.takeWhile (· != c)).length<l.length/\l.take (l.takeWhile (· != c)).length=l.takeWhile (· != c)/\l.drop (l.takeWhile (· != c)).length=l.dropWhile (· != c):=by
 induction l with
 |nil=>simp at h
 |cons b r ih=>
  by_cases hb:b=c
  ·subst hb;have e:List.takeWhile (λx=>x != b) (b::r)= []:=by rw[takeWhile_cons];simp
   have f:List.dropWhile (λx=>x != b) (b::r)=b::r:=by rw[List.dropWhile_cons];simp
   rw[e,f,Lib.indexByte];simp
  ·have d:(b==c)=false:=by simpa using hb
   have a:(b != c)=true:=by simpa using hb
   have g:r.contains c=true:=by
    simp only[List.contains_cons,Bool.or_eq_true]at h;rcases h with h|h
    ·exact absurd (by simpa using h:c=b).symm hb
    ·exact h
   obtain⟨i,i2,i3,i4⟩:=ih g;rw[takeWhile_cons,List.dropWhile_cons,if_pos a,if_pos a,Lib.indexByte,d,i];refine⟨?_,by simp;omega,by simp[i3],by simp[i4]⟩;rw[if_neg (by simp),if_neg (by simp)];simp
theorem uA(s:ByteArray)(n:Nat):(s.extract 0 n).toList=s.toList.take n:=by
 rw[ByteArray.toList_eq,ByteArray.toList_eq,ByteArray.data_extract];simp
theorem qJ(s:ByteArray)(n:Nat):(s.extract n s.size).toList=s.toList.drop n:=by
 rw[<-jA,Lib.extract_to_end,jA]
theorem Dj(s:ByteArray)(w:World)(k:s.size<=maxLen):
  Calls prog 287 #[.string s,.string ⟨#[46]⟩] w λe w'=>Below w.heap.size w w'/\
   ((s.toList.contains 46=true/\∃b a:ByteArray,e=.returned (.tuple #[.string b,.string a,.bool true])/\b.toList=s.toList.takeWhile (· != 46)/\a.toList=(s.toList.dropWhile (· != 46)).drop 1)\/
    (s.toList.contains 46=false/\e=.returned (.tuple #[.string s,.string ⟨#[]⟩,.bool false]))):=by
 unfold maxLen at k;by_cases c:s.toList.contains 46=true
 ·obtain⟨f,i2,i3,i4⟩:=pK s.toList 46 c;obtain⟨n,g⟩:∃n,n=(s.toList.takeWhile (· != 46)).length:=⟨_,rfl⟩;rw[<-g]at f i2 i3 i4;rw[ah]at i2;have d:∀w:World,Calls prog 326 #[.string s,.string ⟨#[46]⟩] w λe w'=>e=.returned (.int .i64 n)/\w'=w:=by
   intro w;rw[<-f,<-jA];exact Tryz.stringslite_Index_one s 46 w
  have h:Hid (s.toList.take n=s.toList.takeWhile (· != 46)):=i3;have i:Hid (s.toList.drop n=s.toList.dropWhile (· != 46)):=i4;have j:Hid (s.toList.contains 46=true):=c;clear f i3 i4 g c;go_enter Tryz.func287,Tryz.ntmps287
  go_wp2_with(go_at_call 326;refine(d _).mono ?_;rintro e w' ⟨rfl,rfl⟩)
  go_region;all_goals(try go_wp2)
  all_goals go_ret3
  exact⟨drew (refl _ _),.inl ⟨j.out,s.extract 0 n,s.extract (n+1) s.size,rfl,by rw[uA,h.out],by rw[qJ,<-i.out,List.drop_drop]⟩⟩
 ·rw[not_eq_true]at c;have d:∀w:World,Calls prog 326 #[.string s,.string ⟨#[46]⟩] w λe w'=>e=.returned (.int .i64 (-1))/\w'=w:=by
   intro w;rw[<-Kl _ _ c,<-jA];exact Tryz.stringslite_Index_one s 46 w
  go_enter Tryz.func287,Tryz.ntmps287
  go_wp2_with(go_at_call 326;refine(d _).mono ?_;rintro e w' ⟨rfl,rfl⟩)
  go_ret3;exact⟨refl _ _,.inr ⟨c,rfl⟩⟩
theorem QQ(s:ByteArray)(w:World)(k:s.size<=maxLen):
  Calls prog 238 #[.string s,.string ⟨#[46]⟩] w λe w'=>Below w.heap.size w w'/\
   ((s.toList.contains 46=true/\∃b a:ByteArray,e=.returned (.tuple #[.string b,.string a,.bool true])/\b.toList=s.toList.takeWhile (· != 46)/\a.toList=(s.toList.dropWhile (· != 46)).drop 1)\/
    (s.toList.contains 46=false/\e=.returned (.tuple #[.string s,.string ⟨#[]⟩,.bool false]))):=by
 go_enter Tryz.func238,Tryz.ntmps238
 go_wp2_with(go_at_call 287;refine(Dj _ _ k).mono ?_)
 rintro e w' ⟨hb,h⟩;rcases h with⟨c,b,a,rfl,f,g⟩|⟨c,rfl⟩
 ·have d:Hid (s.toList.contains 46=true):=c;have i:Hid _:=f;have j:Hid _:=g;clear c f g
  go_wp2
  go_ret3;exact⟨hb,.inl ⟨d.out,b,a,rfl,i.out,j.out⟩⟩
 ·have d:Hid (s.toList.contains 46=false):=c;clear c
  go_wp2
  go_ret3;exact⟨hb,.inr ⟨d.out,rfl⟩⟩
theorem Qm(l:Bs)(p:UInt8->Bool):(l.takeWhile p).length<=l.length:=by
 induction l with
 |nil=>simp
 |cons c r ih=>rw[takeWhile_cons];split<;>simp;omega
theorem Vh(l:Bs)(p:UInt8->Bool):(l.dropWhile p).length<=l.length:=by
 induction l with
 |nil=>simp
 |cons c r ih=>rw[List.dropWhile_cons];split<;>simp;omega
theorem Cs(s:ByteArray)(w:World)(j:s.size<=maxLen):
  Calls prog 172 #[.string s] w λe w'=>e=.returned (.bool (iV s.toList))/\Below w.heap.size w w':=by
 go_enter Tryz.func172,Tryz.ntmps172
 go_wp2_with(go_at_call 238;refine(QQ _ _ j).mono ?_)
 rintro e w' ⟨hb,h⟩;rcases h with⟨c,b,a,rfl,f,g⟩|⟨c,rfl⟩
 ·have l:b.size<=maxLen:=by
   rw[<-ah,f];exact le_trans (Qm _ _) (by rw[ah];exact j)
  have k:a.size<=maxLen:=by
   rw[<-ah,g,length_drop];have:=Vh s.toList (· != 46);rw[ah]at this;omega
  have d:Hid (iV s.toList=(aU b.toList&&aU a.toList)):=by
   rw[Hid,iV,c,f,g];rfl
  clear c f g;by_cases i:aU b.toList=true
  ·go_wp2_with(go_at_call 171;refine(jY _ _ (by assumption)).mono ?_;rintro e w2 ⟨rfl,rfl⟩)
   go_ret;exact⟨ay (by rw[d.out,i];rfl),hb⟩
  ·rw[not_eq_true]at i
   go_wp2_with(go_at_call 171;refine(jY _ _ (by assumption)).mono ?_;rintro e w2 ⟨rfl,rfl⟩)
   go_ret;exact⟨ay (by rw[d.out,i];rfl),hb⟩
 ·have d:Hid (iV s.toList=false):=by rw[Hid,iV,c];rfl
  clear c
  go_wp2_with fail
  go_ret;exact⟨ay d.out.symm,hb⟩
theorem IX(s:ByteArray)(w:World)(a:s.size<=maxLen):
  Calls prog 100 #[.string s] w λe w'=>e=.returned (.int .i64 (aT s.toList))/\Below w.heap.size w w':=by
 go_enter Tryz.func100,Tryz.ntmps100
 go_wp2_with(first
  |(go_at_call 167;refine(yN _ _).mono ?_;rintro e w' ⟨rfl,rfl⟩)
  |(go_at_call 168;refine(zX _ _ a).mono ?_;rintro e w' ⟨rfl,rfl⟩)
  |(go_at_call 169;refine(EU _ _ a).mono ?_;rintro e w' ⟨rfl,rfl⟩)
  |(go_at_call 170;refine(xJ _ _).mono ?_;rintro e w' ⟨rfl,rfl⟩)
  |(go_at_call 171;refine(jY _ _ a).mono ?_;rintro e w' ⟨rfl,rfl⟩)
  |(go_at_call 172;refine(Cs _ _ a).mono ?_;rintro e w' ⟨rfl,hb⟩))
 all_goals go_ret
 all_goals refine⟨iL ?_, ?_⟩
 all_goals first|exact refl _ _|assumption|(simp[aT, *];done)
def lJ(l:Bs):Nat:=if l.headD 0==39 then(if(l.drop 1).contains 39 then((l.drop 1).takeWhile (· != 39)).length+2 else 0)else 0
def dC(c:UInt8):Bool:= !eF c.toNat&& !aM c.toNat
def eT(l:Bs):Nat:=if aM (l.headD 0).toNat then 1 else lJ l+((l.drop (lJ l)).takeWhile dC).length
theorem KE(l:Bs):lJ l<=l.length:=by
 unfold lJ;split
 ·split
  ·next h=>have:=(pK (l.drop 1) 39 h).2.1;simp at this ⊢;omega
  ·omega
 ·omega
theorem xN(s:ByteArray)(w:World)(k:s.size<=maxLen)(d:0<s.size):
  Calls prog 166 #[.string s] w λe w'=>e=.returned (.int .i64 (lJ s.toList))/\w'=w:=by
 unfold maxLen at k;have b:Hid ((s.toList.headD 0==39)=decide ((s[0].toNat:Int)=39)):=by
  rw[Hid,ja s d];exact qY _ 39 (by omega)
 by_cases h:(s[0].toNat:Int)=39
 ·have f:(s.extract 1 s.size).data.toList=s.toList.drop 1:=by rw[jA,qJ]
  by_cases a:(s.toList.drop 1).contains 39=true
  ·obtain⟨j,i2,_,_⟩:=pK _ 39 a;obtain⟨n,i⟩:∃n,n=((s.toList.drop 1).takeWhile (· != 39)).length:=⟨_,rfl⟩;rw[<-i]at j i2;rw[length_drop,ah]at i2;have c:Hid (lJ s.toList=n+2):=by rw[Hid,lJ,b.out,decide_eq_true h,if_pos rfl,if_pos a,i]
   have g:∀w:World,Calls prog 234 #[.string (s.extract 1 s.size),.int .u8 39] w λe w'=>e=.returned (.int .i64 n)/\w'=w:=by
    intro w;rw[<-j,<-f];exact Tryz.strings_IndexByte (s.extract 1 s.size) 39 w
   clear b a f j i;go_enter Tryz.func166,Tryz.ntmps166
   go_wp2_with(go_at_call 234;refine(g _).mono ?_;rintro e w2 ⟨rfl,rfl⟩)
   go_ret;exact⟨iL (by rw[c.out];go_num),rfl⟩
  ·rw[not_eq_true]at a;have c:Hid (lJ s.toList=0):=by rw[Hid,lJ,b.out,decide_eq_true h,if_pos rfl,if_neg (by rw[a];simp)]
   have g:∀w:World,Calls prog 234 #[.string (s.extract 1 s.size),.int .u8 39] w λe w'=>e=.returned (.int .i64 (-1))/\w'=w:=by
    intro w;rw[<-Kl _ _ a,<-f];exact Tryz.strings_IndexByte (s.extract 1 s.size) 39 w
   clear b a f;go_enter Tryz.func166,Tryz.ntmps166
   go_wp2_with(go_at_call 234;refine(g _).mono ?_;rintro e w2 ⟨rfl,rfl⟩)
   go_ret;exact⟨iL (by rw[c.out];rfl),rfl⟩
 ·have c:Hid (lJ s.toList=0):=by rw[Hid,lJ,b.out,decide_eq_false h];rfl
  clear b;go_enter Tryz.func166,Tryz.ntmps166
  go_wp2_with fail
  go_ret;exact⟨iL (by rw[c.out];rfl),rfl⟩
theorem Si(s:ByteArray)(k:Nat)(h:k<s.size):(s.toList.drop k).takeWhile dC=if dC s[k]then s[k]::(s.toList.drop (k+1)).takeWhile dC else []:=by
 rw[drop_cons s k h,takeWhile_cons]
theorem Uz(s:ByteArray)(k:Nat)(h:s.size<=k):(s.toList.drop k).takeWhile dC= []:=by
 rw[drop_of_length_le (by rw[ah];exact h)];rfl
theorem xM(s:ByteArray)(w:World)(p:s.size<=maxLen)(a:0<s.size):
  Calls prog 99 #[.string s] w λe w'=>e=.returned (.int .i64 (eT s.toList))/\w'=w:=by
 have o:=KE s.toList;rw[ah]at o;obtain⟨q,b⟩:∃q,q=lJ s.toList:=⟨_,rfl⟩;rw[<-b]at o;have l:∀w:World,Calls prog 166 #[.string s] w λe w'=>e=.returned (.int .i64 q)/\w'=w:=by
  intro w;rw[b];exact xN s w p a
 by_cases h:aM s[0].toNat=true
 ·have j:Hid (eT s.toList=1):=by rw[Hid,eT,ja s a,if_pos h]
  unfold maxLen at p;clear b;go_enter Tryz.func99,Tryz.ntmps99
  go_wp2_with(go_at_call 165;refine(jb _ _).mono ?_;rintro e w2 ⟨rfl,rfl⟩)
  go_ret;exact⟨iL (by rw[j.out];rfl),rfl⟩
 ·rw[not_eq_true]at h;have j:Hid (eT s.toList=q+((s.toList.drop q).takeWhile dC).length):=by
   rw[Hid,eT,ja s a,if_neg (by rw[h];simp),b]
  unfold maxLen at p;clear b;go_enter Tryz.func99,Tryz.ntmps99
  go_wp2_with(first|(go_at_call 165;refine(jb _ _).mono ?_;rintro e w2 ⟨rfl,rfl⟩)|(go_at_call 166;refine(l _).mono ?_;rintro e w2 ⟨rfl,rfl⟩))
  go_loop [3] (λi=>∃k:Nat,k<=s.size/\i=.int .i64 k/\Hid (eT s.toList=k+((s.toList.drop k).takeWhile dC).length)) (λi=>s.size- (intOf i).toNat)
  case atStart=>exact⟨q,o,rfl,j⟩
  case round=>
   obtain⟨k,t,rfl,f⟩:=hrel;by_cases n:k<s.size
   ·have d:=Si s k n;replace d:Hid _:=d;have g:Hid (dC s[k]=(!eF s[k].toNat&& !aM s[k].toNat)):=rfl;by_cases hb:eF s[k].toNat=true
    ·have c:Hid (eT s.toList=k):=by rw[Hid,f.out,d.out,g.out,hb];rfl
     go_wp2_with(first|(go_at_call 98;refine(jC _ _).mono ?_;rintro e w2 ⟨rfl,rfl⟩)|(go_at_call 165;refine(jb _ _).mono ?_;rintro e w2 ⟨rfl,rfl⟩))
     go_ret;exact⟨iL (by rw[c.out]),rfl⟩
    ·rw[not_eq_true]at hb;by_cases m:aM s[k].toNat=true
     ·have c:Hid (eT s.toList=k):=by rw[Hid,f.out,d.out,g.out,hb,m];rfl
      go_wp2_with(first|(go_at_call 98;refine(jC _ _).mono ?_;rintro e w2 ⟨rfl,rfl⟩)|(go_at_call 165;refine(jb _ _).mono ?_;rintro e w2 ⟨rfl,rfl⟩))
      go_ret;exact⟨iL (by rw[c.out]),rfl⟩
     ·rw[not_eq_true]at m;have c:Hid (eT s.toList=(k+1)+((s.toList.drop (k+1)).takeWhile dC).length):=by
       rw[Hid,f.out,d.out,g.out,hb,m];simp;omega
      go_wp2_with(first|(go_at_call 98;refine(jC _ _).mono ?_;rintro e w2 ⟨rfl,rfl⟩)|(go_at_call 165;refine(jb _ _).mono ?_;rintro e w2 ⟨rfl,rfl⟩))
      go_round
      case rel=>exact⟨k+1,by omega,by go_num,c⟩
      case measure=>simp[intOf];omega
   ·have r:Hid ((s.toList.drop k).takeWhile dC= []):=Uz s k (by omega)
    go_wp2_with fail
    go_ret;exact⟨iL (by rw[f.out,r.out];simp),rfl⟩
abbrev Tk:=Int × Bs
def aa(l:Bs):ByteArray:=⟨l.toArray⟩
theorem au(l:Bs):(aa l).toList=l:=vG l
theorem oq(s:ByteArray):s=aa s.toList:=by
 unfold aa;rw[ByteArray.toList_eq]
theorem aF(l:Bs):(aa l).size=l.length:=Rn l
def lh(t:Tk):List Value:=[.int .i64 t.1,.string (aa t.2)]
def dh(ts:List Tk):List Value:=ts.flatMap lh
theorem vZ(a b:List Tk):dh (a++b)=dh a++dh b:=by simp[dh]
theorem Aj(t:Tk):dh [t]=lh t:=by simp[dh]
def oP:Nat->Bs->Option (List Tk)
 |0,_=>some []
 |f+1,l=>if l.length=0 then some []else if eF (l.headD 0).toNat then oP f (l.drop 1)else
   if aT (l.take (eT l))=0 then none else(oP f (l.drop (eT l))).map ((aT (l.take (eT l)),l.take (eT l)):: ·)
def bI(l:Bs):Option (List Tk):=oP l.length l
theorem Pv(l:Bs):eT l=1\/eT l=lJ l+((l.drop (lJ l)).takeWhile dC).length:=by
 unfold eT;split
 ·exact .inl rfl
 ·exact .inr rfl
theorem oN(l:Bs)(h:0<l.length)(hb:eF (l.headD 0).toNat=false):0<eT l:=by
 unfold eT;split
 ·omega
 ·next a=>
  rw[not_eq_true]at a;by_cases b:lJ l=0
  ·rw[b]
   cases l with
   |nil=>simp at h
   |cons c r=>
    have:dC c=true:=by simp only[List.headD_cons]at hb a;simp[dC,hb,a]
    rw[List.drop_zero,takeWhile_cons,this];simp
  ·omega
theorem CK(l:Bs)(h:0<l.length):eT l<=l.length:=by
 rcases Pv l with e|e
 ·omega
 ·have:=Qm (l.drop (lJ l)) dC;have a:=KE l;rw[length_drop]at this;omega
theorem zx:∀(f:Nat) (l:Bs),l.length<=f->oP f l=bI l:=by
 have b:∀(n f g:Nat) (l:Bs),l.length<=n->l.length<=f->l.length<=g->oP f l=oP g l:=by
  intro n
  induction n with
  |zero=>
   intro f g l h _ _;have a:l.length=0:=by omega
   cases f<;>cases g<;>simp[oP,a]
  |succ n ih=>
   intro f g l h c d
   cases f with
   |zero=>
    have a:l.length=0:=by omega
    cases g<;>simp[oP,a]
   |succ f=>
    cases g with
    |zero=>
     have a:l.length=0:=by omega
     simp[oP,a]
    |succ g=>
     rw[oP,oP];by_cases a:l.length=0
     ·rw[if_pos a,if_pos a]
     ·rw[if_neg a,if_neg a]
      cases hb:eF (l.headD 0).toNat with
      |true=>rw[if_pos rfl,if_pos rfl];exact ih f g _ (by simp;omega) (by simp;omega) (by simp;omega)
      |false=>
       have e:=oN l (by omega) hb;rw[if_neg Bool.false_ne_true,if_neg Bool.false_ne_true,ih f g (l.drop (eT l)) (by simp;omega) (by simp;omega) (by simp;omega)]
 intro f l h;exact b l.length f l.length l (le_refl _) h (le_refl _)
theorem kC(l:Bs)(h:l.length=0):bI l=some []:=by rw[bI,h,oP]
theorem oQ(l:Bs)(h:0<l.length):bI l=if eF (l.headD 0).toNat then bI (l.drop 1)else
   if aT (l.take (eT l))=0 then none else(bI (l.drop (eT l))).map ((aT (l.take (eT l)),l.take (eT l)):: ·):=by
 obtain⟨n,a⟩:∃n,l.length=n+1:=⟨l.length- 1,by omega⟩;rw[bI,a,oP,if_neg (by omega)]
 cases hb:eF (l.headD 0).toNat with
 |true=>rw[if_pos rfl,if_pos rfl];exact zx _ _ (by simp;omega)
 |false=>
  have b:=oN l (by omega) hb;rw[if_neg Bool.false_ne_true,if_neg Bool.false_ne_true,zx n (l.drop (eT l)) (by simp;omega)]
theorem xK(o:Option (List Tk))(a:List Tk)(t:Tk):(o.map (t:: ·)).map (a++ ·)=o.map ((a++ [t])++ ·):=by
 cases o<;>simp
theorem Aa{w w':World}{base n:Nat}{e:TypeId}{size:Nat}{v:Value}{a:List Value}(h:w.ownsRow base e size v n a)(hb:Below w.heap.size w w'):w'.ownsRow base e size v n a:=
 h.kept (row:=none) ⟨hb.os,hb.tape,hb.output,hb.size,λk b _=>hb.block k b⟩ (by
  cases c:v.ownBlock with
  |none=>exact .inl rfl
  |some k=>exact .inr (by simp))
theorem QY:(Tryz.prog.info? 93).map (λi=>(i.zero,i.size,i.bytes))=some (some (.agg #[.int .i64 0,.string ⟨#[]⟩]),2,24):=by kernel_rfl
theorem PN(i:ByteArray)(w:World)(C:i.size<=400):
  Calls prog 54 #[.string i] w λe w'=>Below w.heap.size w w'/\
   ((bI i.toList=none/\e=.returned (.tuple #[.slice none 0 0,.bool false]))\/
    (∃d v,bI i.toList=some d/\d.length<=400/\e=.returned (.tuple #[v,.bool true])/\w'.ownsRow w.heap.size 93 2 v d.length (dh d))):=by
 obtain⟨i0,P,E,F,x⟩:=info_parts QY;go_enter Tryz.func54,Tryz.ntmps54
 go_wp2_with fail
 go_loopw [0,4] (λG U wr=>∃(s:ByteArray) (d:List Tk),G=.string s/\s.size+d.length<=400/\wr.ownsRow w.heap.size 93 2 U d.length (dh d)/\Below w.heap.size w wr/\Hid (bI i.toList=(bI s.toList).map (d++ ·))) (λG _ _=>match G with| .string s=>s.size|_=>0)
 case atStart=>exact⟨i,[],rfl,by simpa using C,World.ownsRow_nil _ _ _ _,refl _ _,by rw[Hid];simp⟩
 case round=>
  obtain⟨s,d,rfl,I,f,a,y⟩:=hrel;have S:s.size<=400:=by omega
  have D:s.size<=maxLen:=by unfold maxLen;omega
  by_cases O:s.size=0
  ·have L:Hid (bI i.toList=some d):=by rw[Hid,y.out,kC _ (by rw[ah,O])];simp
   go_wp2_with fail
   go_ret2;exact⟨a,.inr ⟨d,_,L.out,by omega,rfl,f⟩⟩
  ·have c:0<s.size:=by omega
   have q:=oQ s.toList (by rw[ah];exact c);rw[ja s c]at q;replace q:Hid _:=q;by_cases hb:eF s[0].toNat=true
   ·have M:Hid (bI i.toList=(bI (s.extract 1 s.size).toList).map (d++ ·)):=by
     rw[Hid,y.out,q.out,if_pos hb,qJ]
    go_wp2_with(go_at_call 98;refine(jC _ _).mono ?_;rintro e w2 ⟨rfl,rfl⟩)
    go_roundw
    case rel=>exact⟨s.extract 1 s.size,d,rfl,by simp;omega,f,a,M⟩
    case measure=>simp;omega
   ·rw[not_eq_true]at hb;have B:=oN s.toList (by rw[ah];exact c) (by rw[ja s c];exact hb);have t:=CK s.toList (by rw[ah];exact c);rw[ah]at t;obtain⟨n,z⟩:∃n,n=eT s.toList:=⟨_,rfl⟩;have m:∀w:World,Calls prog 99 #[.string s] w λe w'=>e=.returned (.int .i64 n)/\w'=w:=by
     intro w;rw[z];exact xM s w D c
    obtain⟨k,r⟩:∃k,k=aT (s.toList.take n):=⟨_,rfl⟩;have l:∀w:World,Calls prog 100 #[.string (s.extract 0 n)] w λe w'=>e=.returned (.int .i64 k)/\Below w.heap.size w w':=by
     intro w;rw[r,<-uA];exact IX _ _ (by simp;unfold maxLen;omega)
    have o:Hid (bI i.toList=if k=0 then none else(bI (s.extract n s.size).toList).map ((d++ [(k,s.toList.take n)])++ ·)):=by
     rw[Hid,y.out,q.out,if_neg (by rw[hb];simp),<-z,<-r,qJ];by_cases b:k=0
     ·rw[if_pos b,if_pos b];rfl
     ·rw[if_neg b,if_neg b,xK]
    rw[<-z]at B t;have H:Hid (Value.string (s.extract 0 n)=.string (aa (s.toList.take n))):=by
     rw[Hid];congr 1;rw[<-uA];exact oq _
    clear y q z r;by_cases b:k=0
    ·have A:Hid (bI i.toList=none):=by rw[Hid,o.out,if_pos b]
     subst b
     go_wp2_with(first|(go_at_call 98;refine(jC _ _).mono ?_;rintro e w2 ⟨rfl,rfl⟩)|(go_at_call 99;refine(m _).mono ?_;rintro e w2 ⟨rfl,rfl⟩)|(go_at_call 100;refine(l _).mono ?_;rintro e w2 ⟨rfl,hb2⟩))
     go_ret2;exact⟨a.trans (hb2.mono a.size),.inl ⟨A.out,rfl⟩⟩
    ·have A:Hid (bI i.toList=(bI (s.extract n s.size).toList).map ((d++ [(k,s.toList.take n)])++ ·)):=by rw[Hid,o.out,if_neg b]
     clear o;have Q:(k==0)=false:=by simpa using b
     clear b
     go_wp2_with(first
      |(go_at_call 98;refine(jC _ _).mono ?_;rintro e w2 ⟨rfl,rfl⟩)
      |(go_at_call 99;refine(m _).mono ?_;rintro e w2 ⟨rfl,rfl⟩)
      |(go_at_call 100;refine(l _).mono ?_;rintro e w2 ⟨rfl,hb2⟩)
      |(at_builtin;refine wpList_append_own _ rfl (.tmp 23) (.tmp 27) 166 rfl w.heap.size 93 i0 (.agg #[.int .i64 0,.string ⟨#[]⟩]) 2 24 Tryz.underlying166 P E F x rfl (by decide) _ _ _ rfl ((Aa f hb2).alloc _) ⟨w2.heap.size,0,none⟩ 1 1 [.int .i64 k,.string (s.extract 0 n)] rfl rfl ?c1 ?c2 ?c3 ?c4 ?c5 ?_))
     case c1=>
      intro j u p
      match j,p with
      |0,p=>simp at p;subst p;simp[Addr.add]
      |1,p=>simp at p;subst p;simp[Addr.add]
     case c2=>intro u J;simp at J;rcases J with rfl|rfl<;>rfl
     case c3=>unfold maxLen;omega
     case c4=>omega
     case c5=>have:=a.size;have:=hb2.size;simp;omega
     ·intro v' K h g _;have R:K.ownsRow w.heap.size 93 2 v' (d++ [(k,s.toList.take n)]).length (dh (d++ [(k,s.toList.take n)])):=by
       rw[vZ,Aj,lh,<-H.out];simpa using h
      have T:=a.size;have x:=hb2.size;have N:Below w.heap.size w K:=((a.trans (hb2.mono T)).alloc (by omega) _).grown g (by simp;omega) (λk r=>(f.lt k r).1);clear h g f hb2 m l H
      go_wp2
      go_roundw
      case rel=>exact⟨s.extract n s.size,_,rfl,by simp;omega,R,N,A⟩
      case measure=>simp;omega
theorem fF(w:World)(row:Option Nat):w.grownBy w row:=⟨rfl,rfl,rfl,le_refl _,λ_ _ _=>rfl⟩
theorem aB{a b c:World}{row:Option Nat}(h:a.grownBy b row)(k:b.grownBy c row):a.grownBy c row:=
 ⟨k.os.trans h.os,k.tape.trans h.tape,k.output.trans h.output,le_trans h.size k.size,λi d e=>(k.block i (Nat.lt_of_lt_of_le d h.size) e).trans (h.block i d e)⟩
theorem bC{a b:World}(h:Below a.heap.size a b)(row:Option Nat):a.grownBy b row:=
 ⟨h.os,h.tape,h.output,h.size,λk c _=>h.block k c⟩
theorem aS{a b:World}{row:Option Nat}(h:a.grownBy b row)(o:Obj):a.grownBy (b.alloc o) row:=
 aB h (bC ((refl _ _).alloc (le_refl _) _) _)
def bu(w:World)(rb:Nat)(ts:List Tk):Prop:=
 ∃v,w.heap[rb]? =some (.cells #[v] 170 (0,0))/\
  ((ts= []/\∃ao cap,v=.slice ao 0 cap)\/
   (∃g off cap,v=.slice (some ⟨g,off,none⟩) ts.length cap/\g<rb/\ts.length<=cap/\cap<=maxLen/\∀j u,(dh ts)[j]? =some u->w.cell? ⟨g,off+j,none⟩=some u))
theorem yT(w:World)(a:Nat)(h:bu w a []):
  Calls prog 101 #[.pointer (some ⟨a,0,none⟩)] w λe w'=>e=.returned (.agg #[.int .i64 0,.string ⟨#[]⟩])/\Below w.heap.size w w':=by
 obtain⟨b,cap,c⟩:∃b cap,w.cell? ⟨a,0,none⟩=some (.slice b 0 cap):=by
  obtain⟨v,hb,h⟩:=h;have c:w.cell? ⟨a,0,none⟩=some v:=by simp[cell?,hb]
  rcases h with⟨_,b,cap,rfl⟩|⟨g,f,cap,rfl,_⟩
  ·exact⟨_,_,c⟩
  ·exact⟨_,_,c⟩
 have d:a<w.heap.size:=by
  obtain⟨v,hb,_⟩:=h;rcases Nat.lt_or_ge a w.heap.size with h'|h'
  ·exact h'
  ·simp[Array.getElem?_eq_none h']at hb
 clear h;go_enter Tryz.func101,Tryz.ntmps101
 go_wp2
 exact bodyPost_ret (v:=.agg #[.int .i64 0,.string ⟨#[]⟩]) (by simp[results,Tryz.results101,go_sem]) rfl ⟨rfl,(refl _ _).alloc (le_refl _) _⟩
theorem eu(w:World)(b:Nat)(a:Nat)(v:Value):w.grownBy (w.setCell ⟨b,a,none⟩ v) (some b):=
 ⟨rfl,rfl,rfl,by simp[setCell],λk _ c=>heap_setCell _ _ _ _ (λe=>c (by simp[e]))⟩
theorem zP(w:World)(a:Nat)(v v':Value)(T:TypeId)(h:w.heap[a]? =some (.cells #[v] T (0,0))):(w.setCell ⟨a,0,none⟩ v').heap[a]? =some (.cells #[v'] T (0,0)):=by
 simp[setCell,Array.getElem?_modify,h]
theorem ai{w:World}{k:Nat}{o:Obj}(h:w.heap[k]? =some o):k<w.heap.size:=by
 rcases Nat.lt_or_ge k w.heap.size with h'|h'
 ·exact h'
 ·simp[Array.getElem?_eq_none h']at h
theorem IK{w w':World}{a:Nat}(h:w.grownBy w' (some a)){p:Addr}(b:p.block<w.heap.size)(c:p.block≠a):w'.cell? p=w.cell? p:=
 World.cell?_of_block (h.block p.block b (by simpa using c))
theorem Bj{w:World}{c g b off' cap cap':Nat}{t:Tk}{d:List Tk}(o1 o2:Obj){v:Value}(hb:w.heap[c]? =some (.cells #[v] 170 (0,0)))
  (i:g<c) (f:d.length+1<=cap) (h:cap<=2 ^ 63- 1)
  (a:∀j u,(dh (t::d))[j]? =some u->w.cell? ⟨g,b+j,none⟩=some u) (e:(d= []/\cap'<=maxLen)\/(off'=b+2/\cap'=cap- 1)):
  w.grownBy (((w.setCell ⟨c,0,none⟩ (.slice (some ⟨g,off',none⟩) d.length cap')).alloc o1).alloc o2) (some c)/\
   bu (((w.setCell ⟨c,0,none⟩ (.slice (some ⟨g,off',none⟩) d.length cap')).alloc o1).alloc o2) c d:=by
 have l:=ai hb;have G:=aS (aS (eu w c 0 (.slice (some ⟨g,off',none⟩) d.length cap')) o1) o2;refine⟨G,.slice (some ⟨g,off',none⟩) d.length cap', ?_, ?_⟩
 ·rw[heap_alloc _ _ _ (by simp[setCell];omega),heap_alloc _ _ _ (by simp[setCell];omega)];exact zP w c v _ _ hb
 ·rcases e with⟨rfl,_⟩|⟨rfl,rfl⟩
  ·exact .inl ⟨rfl,_,_,rfl⟩
  ·refine .inr ⟨g,b+2,cap- 1,rfl,i,by omega,by unfold maxLen;omega,λj u k=> ?_⟩;rw[IK G (p:=⟨g,b+2+j,none⟩) (by show g<_;omega) (by show g≠_;omega)];have:=a (j+2) u (by rw[dh,List.flatMap_cons];simpa[lh,dh]using k);rw[<-this];congr 2;omega
theorem kg(w:World)(f:Nat)(t:Tk)(k:List Tk)(h:bu w f (t::k)):
  Calls prog 101 #[.pointer (some ⟨f,0,none⟩)] w λe w'=>e=.returned (.agg #[.int .i64 t.1,.string (aa t.2)])/\w.grownBy w' (some f)/\bu w' f k:=by
 obtain⟨v,hb,h⟩:=h;rcases h with⟨h,_⟩|⟨g,d,cap,rfl,p,b,c,a⟩
 ·cases h
 have B:w.cell? ⟨f,0,none⟩=some (.slice (some ⟨g,d,none⟩) (k.length+1) cap):=by simp[cell?,hb]
 have C:w.frozen? ⟨f,0,none⟩=false:=by simp[frozen?,hb]
 have u:f<w.heap.size:=ai hb;have s:g<w.heap.size:=by omega
 have r:g≠f:=by omega
 have z:w.cell? ⟨g,d,none⟩=some (.int .i64 t.1):=a 0 _ (by simp[dh,lh]);have A:w.cell? ⟨g,d+1,none⟩=some (.string (aa t.2)):=a 1 _ (by simp[dh,lh]);simp only[length_cons]at b;unfold maxLen at c;have o:Hid _:=a;have n:Hid _:=hb;clear a hb;go_enter Tryz.func101,Tryz.ntmps101
 go_wp2
 ·have q:k= []:=List.length_eq_zero_iff.mp (by omega);obtain⟨l,m⟩:=Bj (o1:=.cells #[.int .i64 t.1,.string (aa t.2)] 93) (o2:=.cells #[.int .i64 t.1,.string (aa t.2)] 93) (off':=d) (cap':=0) n.out p b c o.out (.inl ⟨q,by unfold maxLen;omega⟩);exact bodyPost_ret (v:=.agg #[.int .i64 t.1,.string (aa t.2)]) (by simp[results,Tryz.results101,go_sem]) rfl ⟨rfl,l,m⟩
 ·obtain⟨l,m⟩:=Bj (o1:=.cells #[.int .i64 t.1,.string (aa t.2)] 93) (o2:=.cells #[.int .i64 t.1,.string (aa t.2)] 93) (off':=d+2) (cap':=cap- 1) n.out p b c o.out (.inr ⟨rfl,rfl⟩);exact bodyPost_ret (v:=.agg #[.int .i64 t.1,.string (aa t.2)]) (by simp[results,Tryz.results101,go_sem]) rfl ⟨rfl,l,m⟩
theorem Il(w:World)(a:Nat)(h:bu w a []):
  Calls prog 174 #[.pointer (some ⟨a,0,none⟩)] w λe w'=>e=.returned (.bool false)/\w'=w:=by
 obtain⟨b,cap,c⟩:∃b cap,w.cell? ⟨a,0,none⟩=some (.slice b 0 cap):=by
  obtain⟨v,hb,h⟩:=h;have c:w.cell? ⟨a,0,none⟩=some v:=by simp[cell?,hb]
  rcases h with⟨_,b,cap,rfl⟩|⟨g,d,cap,rfl,_⟩
  ·exact⟨_,_,c⟩
  ·exact⟨_,_,c⟩
 clear h;go_enter Tryz.func174,Tryz.ntmps174
 go_wp2_with fail
 go_ret;exact⟨rfl,rfl⟩
theorem Lt(w:World)(f:Nat)(t:Tk)(j:List Tk)(h:bu w f (t::j))(i:¬t.1=2):
  Calls prog 174 #[.pointer (some ⟨f,0,none⟩)] w λe w'=>e=.returned (.bool false)/\w'=w:=by
 obtain⟨v,hb,h⟩:=h;rcases h with⟨h,_⟩|⟨g,d,cap,rfl,n,b,c,a⟩
 ·cases h
 have m:w.cell? ⟨f,0,none⟩=some (.slice (some ⟨g,d,none⟩) (j.length+1) cap):=by simp[cell?,hb]
 have l:w.cell? ⟨g,d,none⟩=some (.int .i64 t.1):=a 0 _ (by simp[dh,lh]);have k:(t.1 != 2)=true:=by simpa using i
 simp only[length_cons]at b;unfold maxLen at c;clear a hb i;go_enter Tryz.func174,Tryz.ntmps174
 go_wp2_with fail
 go_ret;exact⟨rfl,rfl⟩
theorem Im(w:World)(f:Nat)(t:Tk)(i:List Tk)(h:bu w f (t::i))(j:t.1=2):
  Calls prog 174 #[.pointer (some ⟨f,0,none⟩)] w λe w'=>e=.returned (.bool true)/\w.grownBy w' (some f)/\bu w' f i:=by
 have k:=h;obtain⟨v,hb,h⟩:=h;rcases h with⟨h,_⟩|⟨g,d,cap,rfl,o,b,c,a⟩
 ·cases h
 have n:w.cell? ⟨f,0,none⟩=some (.slice (some ⟨g,d,none⟩) (i.length+1) cap):=by simp[cell?,hb]
 have m:w.cell? ⟨g,d,none⟩=some (.int .i64 t.1):=a 0 _ (by simp[dh,lh]);have l:(t.1 != 2)=false:=by simpa using j
 simp only[length_cons]at b;unfold maxLen at c;clear a hb j;go_enter Tryz.func174,Tryz.ntmps174
 go_wp2_with(go_at_call 101;refine(kg _ _ t i k).mono ?_;rintro e w2 ⟨rfl,hg2,hr2⟩)
 go_ret;exact⟨rfl,hg2,hr2⟩
theorem bu.lt{w:World}{rb:Nat}{a:List Tk}(h:bu w rb a):rb<w.heap.size:=by
 obtain⟨v,hb,_⟩:=h;exact ai hb
theorem bu.ag{w x:World}{rb:Nat}{b:List Tk}(h:bu w rb b)(a:∀k,k<=rb->x.heap[k]? =w.heap[k]?):bu x rb b:=by
 obtain⟨v,hb,h⟩:=h;refine⟨v,by rw[a rb (le_refl _)];exact hb, ?_⟩;rcases h with h|⟨g,off,cap,hv,hg,hcap,hmax,hcells⟩
 ·exact .inl h
 ·refine .inr ⟨g,off,cap,hv,hg,hcap,hmax,λj u c=> ?_⟩;rw[World.cell?_of_block (w:=w) (a g (by omega))];exact hcells j u c
theorem bu.setCell{w:World}{a:Nat}{c:List Tk}(h:bu w a c){b:Nat}(hb:a<b)(o:Nat)(v:Value):bu (w.setCell ⟨b,o,none⟩ v) a c:=
 h.ag λk d=>heap_setCell _ _ _ _ (λe=>by simp at e;omega)
theorem bu.alloc{w:World}{rb:Nat}{a:List Tk}(h:bu w rb a)(o:Obj):bu (w.alloc o) rb a:=
 h.ag λk b=>heap_alloc _ _ _ (by have:=h.lt;omega)
theorem bu.below{w x:World}{a:Nat}{b:List Tk}(h:bu w a b)(hb:Below w.heap.size w x):bu x a b:=
 h.ag λk c=>hb.block k (by have:=h.lt;omega)
theorem df{a b:World}{row:Option Nat}(h:a.grownBy b row){k:Nat}(f:a.heap.size<=k)(o:Nat)(v:Value):a.grownBy (b.setCell ⟨k,o,none⟩ v) row:=
 ⟨h.os,h.tape,h.output,by simpa[setCell]using h.size,λi c d=>(heap_setCell _ _ _ _ (λe=>by simp at e;omega)).trans (h.block i c d)⟩
inductive Tr where
 |mk (k:Int) (tx:Bs) (br:Bool) (ops:List Tr)
mutual
def gY:Nat->Nat->List Tk->Option (Tr × List Tk)
 |0,_,_=>none
 |_+1,_,[]=>none
 |f+1,deep,t::r=>if t.1=1 then Dy f (deep+1) r else if fZ t.1 t.2 then some (.mk t.1 t.2 false [],r)else none
def Dy:Nat->Nat->List Tk->Option (Tr × List Tk)
 |0,_,_=>none
 |_+1,_,[]=>none
 |f+1,deep,h::r=>if 20<deep then none else if jU h.1 h.2 then(lg f deep r).map (λp=>(.mk h.1 h.2 true p.1,p.2))else none
def lg:Nat->Nat->List Tk->Option (List Tr × List Tk)
 |0,_,_=>none
 |_+1,_,[]=>none
 |f+1,deep,t::r=>if t.1=2 then some ([],r)else
   match gY f deep (t::r)with
   |none=>none
   |some (x,r')=>(lg f deep r').map (λp=>(x::p.1,p.2))
end
mutual
inductive kQ(w:World)(S:Nat->Prop):List Value->Tr->Prop
 |mk {k:Int} {tx:Bs} {br:Bool} {ops:List Tr} {v:Value} {cs:List Value} :gB w S cs ops->w.ownsRow 0 96 4 v ops.length cs->(∀g,v.ownBlock=some g->S g)->
   kQ w S [.int .i64 k,.string (aa tx),.bool br,v] (.mk k tx br ops)
inductive gB(w:World)(S:Nat->Prop):List Value->List Tr->Prop
 |nil:gB w S [] []
 |cons {c cs:List Value} {t:Tr} {ts:List Tr} :kQ w S c t->gB w S cs ts->gB w S (c++cs) (t::ts)
end
theorem kw{w:World}{b a n size:Nat}{e:TypeId}{v:Value}{c:List Value}(h:w.ownsRow b e size v n c)(hb:∀g,v.ownBlock=some g->a<=g):w.ownsRow a e size v n c:=by
 refine⟨h.1, ?_⟩;rcases h.2 with h|⟨g,cap,cur,rfl,_,h⟩
 ·exact .inl h
 ·exact .inr ⟨g,cap,cur,rfl,hb g rfl,h⟩
theorem aA{w x:World}{b n size:Nat}{e:TypeId}{v:Value}{a:List Value}(h:w.ownsRow b e size v n a)(hb:∀g,v.ownBlock=some g->x.heap[g]? =w.heap[g]?):x.ownsRow b e size v n a:=by
 refine⟨h.1, ?_⟩;rcases h.2 with h|⟨g,cap,cur,rfl,h1,h2,h⟩
 ·exact .inl h
 ·exact .inr ⟨g,cap,cur,rfl,h1,by rw[hb g rfl];exact h2,h⟩
mutual
theorem kQ.move{w x:World}{S S':Nat->Prop}(f:∀g,S g->x.heap[g]? =w.heap[g]?)(h:∀g,S g->S' g):∀ {c:List Value} {t:Tr},kQ w S c t->kQ x S' c t
 |_,_,.mk a b d=>.mk (gB.move f h a) (aA b λg e=>f g (d g e)) λg e=>h g (d g e)
theorem gB.move{w x:World}{S S':Nat->Prop}(d:∀g,S g->x.heap[g]? =w.heap[g]?)(e:∀g,S g->S' g):∀ {c:List Value} {t:List Tr},gB w S c t->gB x S' c t
 |_,_,.nil=>.nil
 |_,_,.cons a b=>.cons (kQ.move d e a) (gB.move d e b)
end
theorem kQ.four{w:World}{S:Nat->Prop}{c:List Value}{t:Tr}(h:kQ w S c t):c.length=4:=by cases h;rfl
theorem gB.snoc{w:World}{S:Nat->Prop}{c d:List Value}{t:List Tr}{u:Tr}(h:gB w S c t)(k:kQ w S d u):gB w S (c++d) (t++ [u]):=by
 induction t generalizing c with
 |nil=>cases h;have:=gB.cons k gB.nil;simpa using this
 |cons t e ih=>
  cases h with
  |cons a b=>rw[List.append_assoc];exact .cons a (ih b)
theorem kQ.leaf(w:World)(S:Nat->Prop)(k:Int)(b:Bs)(a:Bool):kQ w S [.int .i64 k,.string (aa b),.bool a,.slice none 0 0] (.mk k b a []):=
 .mk .nil (World.ownsRow_nil _ _ _ _) (λg c=>by cases c)
theorem kQ.bounded{w:World}{S:Nat->Prop}{c:List Value}{t:Tr} :kQ w S c t->kQ w (λg=>S g/\g<w.heap.size) c t:=by
 intro h;have b:(∀ {c:List Value} {t:Tr},kQ w S c t->kQ w (λg=>S g/\g<w.heap.size) c t):=by
  intro c t h;refine kQ.rec (motive_1:=λc t _=>kQ w (λg=>S g/\g<w.heap.size) c t) (motive_2:=λc t _=>gB w (λg=>S g/\g<w.heap.size) c t) ?_ ?_ ?_ h
  ·intro k m j i v cs _ a e ih;exact .mk ih a λg d=>⟨e g d,(a.lt g d).2⟩
  ·exact .nil
  ·intro c cs t l _ _ f i2;exact .cons f i2
 exact b h
theorem gB.bounded{w:World}{S:Nat->Prop}{c:List Value}{t:List Tr}(h:gB w S c t):gB w (λg=>S g/\g<w.heap.size) c t:=by
 induction t generalizing c with
 |nil=>cases h;exact .nil
 |cons t d ih=>
  cases h with
  |cons a b=>exact .cons a.bounded (ih b)
theorem Pm{wr f h:World}{p c:Nat}{v v':Value}{cs b:List Value}{o:List Tr}{x:Tr}(u w:Obj)
  (C:p<c) (B:c<wr.heap.size) (m:wr.ownsRow (c+1) 96 4 v o.length cs) (t:gB wr (λg=>c<g/\v.ownBlock≠some g) cs o)
  (l:wr.grownBy f (some p)) (D:kQ f (λg=>wr.heap.size<=g) b x)
  (i:h.ownsRow (c+1) 96 4 v' (o.length+1) (cs++b)) (s:((f.alloc u).alloc w).grownBy h v.ownBlock)
  (k:v'.ownBlock=v.ownBlock\/v'.ownBlock=some ((f.alloc u).alloc w).heap.size):
  gB (h.setCell ⟨c,3,none⟩ v') (λg=>c<g/\v'.ownBlock≠some g) (cs++b) (o++ [x])/\
  (h.setCell ⟨c,3,none⟩ v').ownsRow (c+1) 96 4 v' (o++ [x]).length (cs++b)/\
  (∀g,g<wr.heap.size->g≠p->v.ownBlock≠some g->h.heap[g]? =wr.heap[g]?)/\
  (∀g,g<f.heap.size->v.ownBlock≠some g->h.heap[g]? =f.heap[g]?):=by
 have E:=l.size;have y:((f.alloc u).alloc w).heap.size=f.heap.size+2:=by simp
 have ag:∀g,g<f.heap.size->v.ownBlock≠some g->h.heap[g]? =f.heap[g]? :=by
  intro g q r;rw[s.block g (by omega) (λe=>r e.symm),heap_alloc _ _ _ (by simp;omega),heap_alloc _ _ _ q]
 have d:∀g,g<wr.heap.size->g≠p->v.ownBlock≠some g->h.heap[g]? =wr.heap[g]? :=by
  intro g q r A;rw[ag g (by omega) A,l.block g q (by simpa using r)]
 have n:∀g,v.ownBlock=some g->g<wr.heap.size:=λg a=>(m.lt g a).2;refine⟨gB.snoc ?_ ?_, ?_,d,ag⟩
 ·refine t.bounded.move (λg a=> ?_) (λg a=>⟨a.1.1, ?_⟩)
  ·rw[heap_setCell _ _ _ _ (by show g≠c;have:=a.1.1;omega),d g a.2 (by have:=a.1.1;omega) a.1.2]
  ·rcases k with e|e
   ·rw[e];exact a.1.2
   ·rw[e,y];intro j;have z:=Option.some.inj j;have:=a.2;omega
 ·refine D.bounded.move (λg a=> ?_) (λg a=>⟨by have:=a.1;omega, ?_⟩)
  ·rw[heap_setCell _ _ _ _ (by show g≠c;have:=a.1;omega),ag g a.2 (λe=>by have:=n g e;have:=a.1;omega)]
  ·rcases k with e|e
   ·rw[e];intro j;have:=n g j;have:=a.1;omega
   ·rw[e,y];intro j;have z:=Option.some.inj j;have:=a.2;omega
 ·rw[List.length_append];exact ownsRow_setCell_below i (by show c<c+1;omega) _
theorem OC{w wr j W o:World}{n:Nat}{row:Option Nat}(h:w.grownBy wr (some n))(l:wr.grownBy j (some n))(p:W.os=j.os/\W.tape=j.tape/\W.output=j.output/\j.heap.size<=W.heap.size)(m:W.grownBy o row)
  (r:∀g,row=some g->w.heap.size<=g) (q:∀g,g<wr.heap.size->g≠n->row≠some g->o.heap[g]? =wr.heap[g]?):w.grownBy o (some n):=by
 obtain⟨a,b,c,d⟩:=p;refine⟨m.os.trans (a.trans (l.os.trans h.os)),m.tape.trans (b.trans (l.tape.trans h.tape)),m.output.trans (c.trans (l.output.trans h.output)),le_trans h.size (le_trans l.size (le_trans d m.size)),λk f i=> ?_⟩;rw[q k (Nat.lt_of_lt_of_le f h.size) (λe=>i (by rw[e])) (λe=>by have:=r k e;omega)];exact h.block k f i
def Reads(w:World)(rb:Nat)(ts:List Tk)(o:Option (Tr × List Tk))(e:Ending)(w':World):Prop:=
 w.grownBy w' (some rb)/\
  ((o=none/\e=.returned (.tuple #[.agg #[.int .i64 0,.string ⟨#[]⟩,.bool false,.slice none 0 0],.bool false]))\/
   (∃k tx br ao n cap t r,o=some (t,r)/\r.length<ts.length/\e=.returned (.tuple #[.agg #[.int .i64 k,.string (aa tx),.bool br,.slice ao n cap],.bool true])/\
    bu w' rb r/\kQ w' (λg=>w.heap.size<=g) [.int .i64 k,.string (aa tx),.bool br,.slice ao n cap] t))
def yt(f:Nat):Prop:=∀(w:World) (rb deep:Nat) (ts:List Tk),bu w rb ts->2*ts.length<=f->ts.length<=400->deep<=21->
 Calls prog 55 #[.pointer (some ⟨rb,0,none⟩),.int .i64 deep] w λe w'=>Reads w rb ts (gY f deep ts) e w'
def Nv(f:Nat):Prop:=∀(w:World) (rb deep:Nat) (ts:List Tk),bu w rb ts->2*ts.length+1<=f->ts.length<=400->deep<=22->
 Calls prog 102 #[.pointer (some ⟨rb,0,none⟩),.int .i64 deep] w λe w'=>Reads w rb ts (Dy f deep ts) e w'
theorem bE{x:World}{b:Nat}{a0 a1 a2 a3:Value}{T:TypeId}(h:x.heap[b]? =some (.cells #[a0,a1,a2,a3] T (0,0))):
  (x.cell? ⟨b,0,none⟩=some a0/\x.cell? ⟨b,1,none⟩=some a1/\x.cell? ⟨b,2,none⟩=some a2/\x.cell? ⟨b,3,none⟩=some a3)/\
  (x.frozen? ⟨b,0,none⟩=false/\x.frozen? ⟨b,1,none⟩=false/\x.frozen? ⟨b,2,none⟩=false/\x.frozen? ⟨b,3,none⟩=false):=by
 simp[cell?,frozen?,h]
theorem NV{x:World}{b:Nat}{a0 a1:Value}{T:TypeId}(h:x.heap[b]? =some (.cells #[a0,a1] T (0,0))):
  (x.cell? ⟨b,0,none⟩=some a0/\x.cell? ⟨b,1,none⟩=some a1)/\(x.frozen? ⟨b,0,none⟩=false/\x.frozen? ⟨b,1,none⟩=false):=by
 simp[cell?,frozen?,h]
theorem bN(w:World)(o:Obj):(w.alloc o).heap[w.heap.size]? =some o:=heap_alloc_new w o
theorem dE{x:World}{b:Nat}{o:Obj}(h:x.heap[b]? =some o)(a:Obj):(x.alloc a).heap[b]? =some o:=by
 rw[heap_alloc _ _ _ (ai h)];exact h
theorem cu{x y:World}{b:Nat}{o:Obj}(h:x.heap[b]? =some o)(hb:Below x.heap.size x y):y.heap[b]? =some o:=by
 rw[hb.block _ (ai h)];exact h
theorem cz{x y:World}{b c:Nat}{o:Obj}(h:x.heap[b]? =some o)(hb:x.grownBy y (some c))(a:b≠c):y.heap[b]? =some o:=by
 rw[hb.block _ (ai h) (by simpa using a)];exact h
theorem GV(w:World)(b a:Nat)(h:bu w b []):
  Calls prog 55 #[.pointer (some ⟨b,0,none⟩),.int .i64 a] w λe w'=>Reads w b [] none e w':=by
 have g:=h.lt;have i:w.heap.size≠b:=by omega
 have m:fZ 0 (ByteArray.mk #[]).toList=false:=by rw[ByteArray.toList_eq];rfl
 have j:=h;clear h;go_enter Tryz.func55,Tryz.ntmps55
 go_wp2_with(first
  |(go_at_call 101;refine(yT _ _ (j.alloc _)).mono ?_;rintro e w2 ⟨rfl,hb2⟩;have c:=cu (bN w _) hb2)
  |(go_at_call 103;refine(lF _ _ _).mono ?_;rintro e k ⟨rfl,hb3⟩;have d:=cu (dE c _) hb3;obtain⟨⟨z0,l,z2,z3⟩,f0,f1,f2,f3⟩:=bE d))
 have f:w.grownBy k (some b):=aB (aS (aB (aS (fF w _) _) (bC hb2 _)) _) (bC hb3 _);refine bodyPost_ret (v:=.tuple #[.agg #[.int .i64 0,.string ⟨#[]⟩,.bool false,.slice none 0 0],.bool false]) (by simp[results,Tryz.results55,go_sem,z0,l,z2,z3]) rfl ⟨?_,.inl ⟨rfl,rfl⟩⟩
 repeat(refine df ?_ (le_refl _) _ _)
 exact f
theorem Ng(w:World)(c f:Nat)(t:Tk)(d:List Tk)(h:bu w c (t::d))(p:¬t.1=1):
  Calls prog 55 #[.pointer (some ⟨c,0,none⟩),.int .i64 f] w λe w'=>Reads w c (t::d) (if fZ t.1 t.2 then some (.mk t.1 t.2 false [],d)else none) e w':=by
 have n:=h.lt;have g:w.heap.size≠c:=by omega
 have s:(t.1==1)=false:=by simpa using p
 have q:=h;clear h p
 cases i:fZ t.1 t.2 with
 |false=>
  have l:∀x:World,Calls prog 103 #[.agg #[.int .i64 t.1,.string (aa t.2)]] x λe w'=>e=.returned (.bool false)/\Below x.heap.size x w':=by
   intro x;rw[<-i,<-au t.2];simpa only[au]using lF t.1 (aa t.2) x
  clear i;go_enter Tryz.func55,Tryz.ntmps55
  go_wp2_with(first
   |(go_at_call 101;refine(kg _ _ t d (q.alloc _)).mono ?_;rintro e w2 ⟨rfl,hg2,hr2⟩;have a:=cz (bN w _) hg2 g)
   |(go_at_call 103;refine(l _).mono ?_;rintro e j ⟨rfl,hb3⟩;have b:=cu (dE a _) hb3;obtain⟨⟨z0,o,z2,z3⟩,f0,f1,f2,f3⟩:=bE b))
  have k:w.grownBy j (some c):=aB (aS (aB (aS (fF w _) _) hg2) _) (bC hb3 _);refine bodyPost_ret (v:=.tuple #[.agg #[.int .i64 0,.string ⟨#[]⟩,.bool false,.slice none 0 0],.bool false]) (by simp[results,Tryz.results55,go_sem,z0,o,z2,z3]) rfl ⟨?_,.inl ⟨rfl,rfl⟩⟩
  repeat(refine df ?_ (le_refl _) _ _)
  exact k
 |true=>
  have l:∀x:World,Calls prog 103 #[.agg #[.int .i64 t.1,.string (aa t.2)]] x λe w'=>e=.returned (.bool true)/\Below x.heap.size x w':=by
   intro x;rw[<-i,<-au t.2];simpa only[au]using lF t.1 (aa t.2) x
  clear i;go_enter Tryz.func55,Tryz.ntmps55
  go_wp2_with(first
   |(go_at_call 101;refine(kg _ _ t d (q.alloc _)).mono ?_;rintro e w2 ⟨rfl,hg2,hr2⟩;have a:=cz (bN w _) hg2 g)
   |(go_at_call 103;refine(l _).mono ?_;rintro e j ⟨rfl,hb3⟩;have b:=cu (dE a _) hb3;have m:=cu (bN w2 _) hb3;obtain⟨⟨z0,o,z2,z3⟩,f0,f1,f2,f3⟩:=bE b;obtain⟨⟨u,y⟩,_,_⟩:=NV m))
  have k:w.grownBy j (some c):=aB (aS (aB (aS (fF w _) _) hg2) _) (bC hb3 _);have r:bu j c d:=(hr2.alloc _).below hb3;refine bodyPost_ret (v:=.tuple #[.agg #[.int .i64 t.1,.string (aa t.2),.bool false,.slice none 0 0],.bool true]) (by simp[results,Tryz.results55,go_sem,z0,o,z2,z3]) rfl ⟨?_,.inr ⟨_,_,_,_,_,_,_,d,rfl,by simp,rfl, ?_,kQ.leaf _ _ _ _ _⟩⟩
  ·repeat(refine df ?_ (le_refl _) _ _)
   exact k
  ·repeat(refine bu.setCell ?_ n _ _)
   exact r
theorem Nh(f:Nat)(G:Nv f)(w:World)(c a:Nat)(t:Tk)(b:List Tk)(h:bu w c (t::b))(I:2*b.length+1<=f)(s:b.length<=400)(O:a<=21)(A:t.1=1):
  Calls prog 55 #[.pointer (some ⟨c,0,none⟩),.int .i64 a] w λe w'=>Reads w c (t::b) (Dy f (a+1) b) e w':=by
 have u:=h.lt;have j:w.heap.size≠c:=by omega
 have H:(t.1==1)=true:=by simpa using A
 have J:=h;clear h A;have C:∀x:World,bu x c b->Calls prog 102 #[.pointer (some ⟨c,0,none⟩),.int .i64 (a+1)] x λe w'=>Reads x c b (Dy f (a+1) b) e w':=
  λx m=>G x c (a+1) b m I s (by omega)
 go_enter Tryz.func55,Tryz.ntmps55
 go_wp2_with(first
  |(go_at_call 101;refine(kg _ _ t b (J.alloc _)).mono ?_;rintro e w2 ⟨rfl,hg2,hr2⟩;have i:=cz (bN w _) hg2 j)
  |(go_at_call 102;refine(C _ (hr2.alloc _)).mono ?_))
 rintro e N ⟨d,hres⟩;have q:=cz (dE i _) d j;obtain⟨⟨z0,B,z2,z3⟩,f0,f1,f2,f3⟩:=bE q;have L:=ai i;have z:w.grownBy N (some c):=aB (aS (aB (aS (fF w _) _) hg2) _) d;rcases hres with⟨l,rfl⟩|⟨k,M,F,E,n,cap,x,r,l,K,rfl,y,m⟩
 ·have o:Hid (Dy f (a+1) b=none):=l;clear l
  go_wp2
  refine bodyPost_ret (v:=.tuple #[.agg #[.int .i64 0,.string ⟨#[]⟩,.bool false,.slice none 0 0],.bool false]) (by simp[results,Tryz.results55,go_sem,z0,B,z2,z3]) rfl ⟨?_,.inl ⟨o.out,rfl⟩⟩
  repeat(refine df ?_ (le_refl _) _ _)
  exact z
 ·have o:Hid (Dy f (a+1) b=some (x,r)):=l;have D:Hid _:=m;clear l m
  go_wp2
  refine bodyPost_ret (v:=.tuple #[.agg #[.int .i64 k,.string (aa M),.bool F,.slice E n cap],.bool true]) (by simp[results,Tryz.results55,go_sem,z0,B,z2,z3]) rfl ⟨?_,.inr ⟨_,_,_,_,_,_,x,r,o.out,by simp;omega,rfl, ?_,D.out.move (λg p=> ?_) (λg p=> ?_)⟩⟩
  ·repeat(refine df ?_ (le_refl _) _ _)
   exact z
  ·repeat(refine bu.setCell ?_ u _ _)
   exact y
  ·simp at p
   repeat rw[heap_setCell _ _ _ _ (by show g≠w.heap.size;omega)]
  ·simp at p;show w.heap.size<=g;omega
end Go.Proofs.YtdifpeaklamhnaaGreatDoor
