import Derived.Test.YtdifpeaklamhnaaGreatDoorTreeZ
import Derived.BigQuiet
import Derived.Deep.DeepCutAuto
import Derived.Deep.CutBlock
set_option linter.unusedVariables false
set_option linter.unusedSimpArgs false
set_option maxRecDepth 100000
set_option maxHeartbeats 0
namespace Go.Proofs.YtdifpeaklamhnaaGreatDoor
open Go.Proofs.Tryz
open Go.RowKit
open Bool (not_eq_true and_eq_true eq_false_iff)
open Below (refl drew)
open List (headD_cons drop_of_length_le length_drop drop_drop)
open Nat (zero_le le_refl)
theorem lM(c:Int)(w:World):
  Calls prog 177 #[.int .u8 c] w λe w'=>e=.returned (.bool (eF c))/\w'=w:=by
 go_enter Tryz.func177,Tryz.ntmps177
 go_wp2
 all_goals go_ret
 all_goals(refine⟨ay ?_,rfl⟩;simp[eF, *])
theorem eH(c:Int)(w:World):
  Calls prog 178 #[.int .u8 c] w λe w'=>e=.returned (.bool (aM c))/\w'=w:=by
 go_enter Tryz.func178,Tryz.ntmps178
 go_wp2
 all_goals go_ret
 all_goals(refine⟨ay ?_,rfl⟩;simp[aM, *])
theorem lN(c:Int)(w:World):
  Calls prog 191 #[.int .u8 c] w λe w'=>e=.returned (.bool (bQ c))/\w'=w:=by
 go_enter Tryz.func191,Tryz.ntmps191
 go_wp2
 all_goals go_ret
 all_goals(refine⟨ay ?_,rfl⟩;simp[bQ]<;>omega)
theorem kM(c:Int)(w:World):
  Calls prog 190 #[.int .u8 c] w λe w'=>e=.returned (.bool (eB c))/\w'=w:=by
 go_enter Tryz.func190,Tryz.ntmps190
 go_wp2
 all_goals go_ret
 all_goals(refine⟨ay ?_,rfl⟩;simp[eB]<;>omega)
theorem iK(s:ByteArray)(w:World)(x:s.size<=maxLen):
  Calls prog 182 #[.string s] w λe w'=>e=.returned (.bool (cB s.toList))/\w'=w:=by
 unfold maxLen at x;by_cases j:2<=s.size/\s.size<=32
 ·obtain⟨j,l⟩:=j;have a:=Be s j l;replace a:Hid _:=a;by_cases d:(s[0].toNat:Int)=39/\(s[s.size- 1].toNat:Int)=39
  ·obtain⟨d,g⟩:=d;go_enter Tryz.func182,Tryz.ntmps182
   go_wp2_with fail
   go_loop [3] (λi=>∃k:Nat,1<=k/\k<=s.size- 1/\i=.int .i64 k/\Hid (((s.toList.take (s.size- 1)).drop 1).all qR=((s.toList.take (s.size- 1)).drop k).all qR)) (λi=>s.size- (intOf i).toNat)
   case atStart=>exact⟨1,by omega,by omega,rfl,rfl⟩
   case round=>
    obtain⟨k,u,z,rfl,f⟩:=hrel;by_cases m:k<s.size- 1
    ·have v:k<s.size:=by omega
     have c:=FW s k m;replace c:Hid _:=c;have b:=KG s[k];replace b:Hid _:=b;by_cases o:(s[k].toNat:Int)<32
     ·go_wp2_with fail
      go_ret;exact⟨ay (by rw[a.out,f.out,c.out,b.out];simp[o]),rfl⟩
     ·by_cases hb:(126:Int)<s[k].toNat
      ·go_wp2_with fail
       go_ret;exact⟨ay (by rw[a.out,f.out,c.out,b.out];simp[hb]),rfl⟩
      ·by_cases p:(s[k].toNat:Int)=39
       ·go_wp2_with fail
        go_ret;exact⟨ay (by rw[a.out,f.out,c.out,b.out];simp[p]),rfl⟩
       ·have q:Hid (qR s[k]=true):=by rw[Hid,b.out];simp[o,hb,p]
        go_wp2_with fail
        go_round
        case rel=>exact⟨k+1,by omega,by omega,by go_num,by rw[Hid,f.out,c.out,q.out];rfl⟩
        case measure=>simp[intOf];omega
    ·have r:Hid (((s.toList.take (s.size- 1)).drop k).all qR=true):=KH s k (by omega)
     go_wp2_with fail
     go_ret;exact⟨ay (by rw[a.out,f.out,r.out,d,g];simp),rfl⟩
  ·by_cases g:(s[0].toNat:Int)=39
   ·have n:Hid (¬(s[s.size- 1].toNat:Int)=39):=λh=>d ⟨g,h⟩;have t:((s[s.size- 1].toNat:Int) != 39)=true:=by rw[BS,decide_eq_false n.out];rfl
    clear d;go_enter Tryz.func182,Tryz.ntmps182
    go_wp2_with fail
    go_ret;exact⟨ay (by rw[a.out,decide_eq_false n.out];simp),rfl⟩
   ·clear d;go_enter Tryz.func182,Tryz.ntmps182
    go_wp2_with fail
    go_ret;exact⟨ay (by rw[a.out];simp[g]),rfl⟩
 ·have a:Hid (cB s.toList=false):=by
   simp only[Hid,cB,ah];simp;omega
  by_cases t:s.size<2
  ·go_enter Tryz.func182,Tryz.ntmps182
   go_wp2_with fail
   go_ret;exact⟨ay a.out.symm,rfl⟩
  ·have y:32<s.size:=by omega
   go_enter Tryz.func182,Tryz.ntmps182
   go_wp2_with fail
   go_ret;exact⟨ay a.out.symm,rfl⟩
theorem dx(s:ByteArray)(w:World):
  Calls prog 113 #[.string s] w λe w'=>e=.returned (.bool (iX s.toList))/\w'=w:=by
 go_enter Tryz.func113,Tryz.ntmps113
 go_wp2
 all_goals go_ret
 all_goals(refine⟨ay ?_,rfl⟩;simp_all[iX])
def iJ(l:Bs):Int:=if iC l then(l.getD 1 0).toNat- 49 else-1
theorem dG(s:ByteArray)(w:World):
  Calls prog 183 #[.string s] w λe w'=>e=.returned (.int .i64 (iJ s.toList))/\w'=w:=by
 by_cases d:s.size=2
 ·have b:Hid (iC s.toList=(decide ((s[0].toNat:Int)=36)&&bQ s[1].toNat&& !decide ((s[1].toNat:Int)=48))):=KA s d;have f:Hid (s.toList.getD 1 0=s[1]):=uC s 1 (by omega);by_cases c:(s[0].toNat:Int)=36
  ·by_cases i:(s[1].toNat:Int)<49
   ·have a:Hid (iJ s.toList= -1):=by
     rw[Hid,iJ,if_neg];rw[b.out];unfold bQ;simp;omega
    go_enter Tryz.func183,Tryz.ntmps183
    go_wp2
    go_ret;exact⟨iL a.out.symm,rfl⟩
   ·by_cases j:(57:Int)<s[1].toNat
    ·have a:Hid (iJ s.toList= -1):=by
      rw[Hid,iJ,if_neg];rw[b.out];unfold bQ;simp;omega
     go_enter Tryz.func183,Tryz.ntmps183
     go_wp2
     go_ret;exact⟨iL a.out.symm,rfl⟩
    ·have a:Hid (iJ s.toList=(s[1].toNat:Int)- 49):=by
      rw[Hid,iJ,if_pos,f.out];rw[b.out];unfold bQ;simp;omega
     go_enter Tryz.func183,Tryz.ntmps183
     go_wp2
     go_ret;exact⟨iL a.out.symm,rfl⟩
  ·have a:Hid (iJ s.toList= -1):=by
    rw[Hid,iJ,if_neg];rw[b.out];simp[c]
   have h:((s[0].toNat:Int) != 36)=true:=by simpa using c
   clear c;go_enter Tryz.func183,Tryz.ntmps183
   go_wp2
   go_ret;exact⟨iL a.out.symm,rfl⟩
 ·have a:Hid (iJ s.toList= -1):=by
   rw[Hid,iJ,if_neg];unfold iC;rw[ah];simp[d]
  have g:((s.size:Int) != 2)=true:=by simp;omega
  go_enter Tryz.func183,Tryz.ntmps183
  go_wp2
  go_ret;exact⟨iL a.out.symm,rfl⟩
theorem gG(s:ByteArray)(w:World)(t:s.size<=maxLen):
  Calls prog 112 #[.string s] w λe w'=>e=.returned (.bool (aU s.toList))/\w'=w:=by
 unfold maxLen at t;go_enter Tryz.func112,Tryz.ntmps112
 go_wp2_with fail
 go_loop [3] (λi=>∃k:Nat,k<=s.size/\i=.int .i64 k/\(1<=k->eB (s.toList.headD 0).toNat=true)/\Hid (s.toList.all zK=(s.toList.drop k).all zK)) (λi=>s.size- (intOf i).toNat)
 case atStart=>exact⟨0,zero_le _,rfl,λh=>by omega,rfl⟩
 case round=>
  obtain⟨k,u,rfl,f,g⟩:=hrel;have l:Hid _:=f;clear f;by_cases o:k<s.size
  ·have n:Hid ((s.toList.drop k).all zK=(zK s[k]&&(s.toList.drop (k+1)).all zK)):=uj zK s k o;have j:Hid (zK s[k]=(eB s[k].toNat||bQ s[k].toNat)):=rfl;have p:Hid (s.toList.headD 0=s[0]):=ja s (by omega);by_cases d:eB s[k].toNat=true
   ·have m:Hid (eB (s.toList.headD 0).toNat=true):=by
     rw[Hid];by_cases b:k=0
     ·rw[p.out];subst b;exact d
     ·exact l.out (by omega)
    go_wp2_with(first|(go_at_call 190;refine(kM _ _).mono ?_;rintro e w' ⟨rfl,rfl⟩)|(go_at_call 191;refine(lN _ _).mono ?_;rintro e w' ⟨rfl,rfl⟩))
    go_round
    case rel=>exact⟨k+1,by omega,by go_num,λ_=>m.out,by rw[Hid,g.out,n.out,j.out,d];rfl⟩
    case measure=>simp[intOf];omega
   ·rw[not_eq_true]at d;by_cases b:k=0
    ·have a:Hid (aU s.toList=false):=by
      have e:eB (s.toList.headD 0).toNat=false:=by rw[p.out];subst b;exact d
      rw[Hid,aU,e];simp
     subst b
     go_wp2_with(first|(go_at_call 190;refine(kM _ _).mono ?_;rintro e w' ⟨rfl,rfl⟩)|(go_at_call 191;refine(lN _ _).mono ?_;rintro e w' ⟨rfl,rfl⟩))
     go_ret;exact⟨ay a.out.symm,rfl⟩
    ·have r:((k:Int)==0)=false:=by simp;omega
     by_cases c:bQ s[k].toNat=true
     ·have m:Hid (eB (s.toList.headD 0).toNat=true):=l.out (by omega)
      go_wp2_with(first|(go_at_call 190;refine(kM _ _).mono ?_;rintro e w' ⟨rfl,rfl⟩)|(go_at_call 191;refine(lN _ _).mono ?_;rintro e w' ⟨rfl,rfl⟩))
      go_round
      case rel=>exact⟨k+1,by omega,by go_num,λ_=>m.out,by rw[Hid,g.out,n.out,j.out,d,c];rfl⟩
      case measure=>simp[intOf];omega
     ·rw[not_eq_true]at c;have a:Hid (aU s.toList=false):=by
       rw[Hid,aU,g.out,n.out,j.out,d,c];simp
      go_wp2_with(first|(go_at_call 190;refine(kM _ _).mono ?_;rintro e w' ⟨rfl,rfl⟩)|(go_at_call 191;refine(lN _ _).mono ?_;rintro e w' ⟨rfl,rfl⟩))
      go_ret;exact⟨ay a.out.symm,rfl⟩
  ·by_cases b:s.size=0
   ·have q:=rC s b;have a:Hid (aU s.toList=false):=by rw[Hid,aU,ah];simp[b]
    go_wp2_with fail
    go_ret;exact⟨ay a.out.symm,rfl⟩
   ·have q:=oJ s (by omega);have a:Hid (aU s.toList=decide ((s.size:Int)<=12)):=by
     rw[Hid,aU,l.out (by omega),g.out,xV zK s k (by omega),ah];rw[Bool.eq_iff_iff];simp;omega
    go_wp2_with fail
    go_ret;exact⟨ay a.out.symm,rfl⟩
def jF:Bs->Int->Int
 | [],n=>n
 |c::r,n=>jF r (n*10+(c.toNat- 48))
def mU(l:Bs):Int:=if dK l then(if l.headD 0==45 then-(jF (l.drop 1) 0)else jF l 0)else 0
def qi:Bs->Int->Bool
 | [],_=>true
 |c::r,n=>(decide (49<=(c.toNat:Int))&&decide ((c.toNat:Int)<=57)||(decide ((c.toNat:Int)=48)&&decide (0<n)))&&decide (n*10+(c.toNat- 48)<=1000000000)&&qi r (n*10+(c.toNat- 48))
theorem Pf(l:Bs):∀n:Int,0<n->qi l n=bO l n:=by
 induction l with
 |nil=>intro n _;rfl
 |cons c r ih=>
  intro n b;rw[qi,bO];have e:(decide (49<=(c.toNat:Int))&&decide ((c.toNat:Int)<=57)||(decide ((c.toNat:Int)=48)&&decide (0<n)))=bQ c.toNat:=by
   unfold bQ;rw[Bool.eq_iff_iff];simp;omega
  rw[e];by_cases a:bQ c.toNat=true
  ·have:=jW a;rw[ih _ (by omega)]
  ·rw[not_eq_true]at a;rw[a];rfl
theorem Mv(l:Bs):qi l 0=(l.isEmpty||(!(l.headD 0==48)&&bO l 0)):=by
 cases l with
 |nil=>rfl
 |cons c r=>
  rw[qi,bO,headD_cons];have a:(c==48)=decide ((c.toNat:Int)=48):=qY c 48 (by omega);rw[a];by_cases h:(c.toNat:Int)=48
  ·simp[h]
  ·have e:(decide (49<=(c.toNat:Int))&&decide ((c.toNat:Int)<=57)||(decide ((c.toNat:Int)=48)&&decide ((0:Int)<0)))=bQ c.toNat:=by
    unfold bQ;rw[Bool.eq_iff_iff];simp;omega
   rw[e];by_cases b:bQ c.toNat=true
   ·have:=jW b;rw[Pf _ _ (by omega)];simp[h]
   ·rw[not_eq_true]at b;rw[b];simp
theorem QR(l:Bs):∀n:Int,0<=n->n<=1000000000->bO l n=true->0<=jF l n/\jF l n<=1000000000:=by
 induction l with
 |nil=>intro n a b _;exact⟨a,b⟩
 |cons c r ih=>
  intro n a b h;rw[bO,and_eq_true,and_eq_true]at h;have d:=jW h.1.1;have hb:n*10+(c.toNat- 48)<=1000000000:=by simpa using h.1.2
  rw[jF];exact ih _ (by omega) hb h.2
theorem vM(s:ByteArray)(k:Nat)(n:Int)(h:k<s.size):qi (s.toList.drop k) n=
  ((decide (49<=(s[k].toNat:Int))&&decide ((s[k].toNat:Int)<=57)||(decide ((s[k].toNat:Int)=48)&&decide (0<n)))&&decide (n*10+(s[k].toNat- 48)<=1000000000)&&qi (s.toList.drop (k+1)) (n*10+(s[k].toNat- 48))):=by
 rw[drop_cons s k h,qi]
theorem vz(s:ByteArray)(k:Nat)(n:Int)(h:k<s.size):jF (s.toList.drop k) n=jF (s.toList.drop (k+1)) (n*10+(s[k].toNat- 48)):=by
 rw[drop_cons s k h,jF]
theorem FJ(s:ByteArray)(k:Nat)(n:Int)(h:s.size<=k):qi (s.toList.drop k) n=true/\jF (s.toList.drop k) n=n:=by
 rw[drop_of_length_le (by rw[ah];exact h)];exact⟨rfl,rfl⟩
theorem bR{l:Bs}(h:dK l=false):mU l=0:=by rw[mU,h];rfl
theorem gq{a b:Int}{c d:Bool}(e:a=b)(f:c=d):Ending.returned (.tuple #[.int .i64 a,.bool c])=.returned (.tuple #[.int .i64 b,.bool d]):=by rw[e,f]
theorem AY(l:Bs)(a:(l== [48])=false):dK l=(decide (0<(aX l).length)&&qi (aX l) 0):=by
 rw[dK,a,Bool.false_or,Mv]
 cases b:aX l with
 |nil=>rfl
 |cons c r=>simp
theorem eO(s:ByteArray)(w:World)(Y:s.size<=maxLen):
  Calls prog 180 #[.string s] w λe w'=>e=.returned (.tuple #[.int .i64 (mU s.toList),.bool (dK s.toList)])/\w'=w:=by
 unfold maxLen at Y;by_cases J:(s.toList== [48])=true
 ·have v:Hid (dK s.toList=true):=by rw[Hid,dK,J];rfl
  have E:Hid (mU s.toList=0):=by
   have:s.toList= [48]:=by simpa using J
   rw[Hid,this];rfl
  go_enter Tryz.func180,Tryz.ntmps180
  go_wp2_with fail
  go_ret2;exact⟨by rw[v.out,E.out];rfl,rfl⟩
 ·rw[not_eq_true]at J;have r:=AY s.toList J;replace r:Hid _:=r;by_cases Z:s.size=0
  ·have S:=rC s Z;have N:s.toList= []:=List.isEmpty_iff.mp S;have v:Hid (dK s.toList=false):=by rw[Hid,N];rfl
   have E:Hid (mU s.toList=0):=by rw[Hid,N];rfl
   clear N;go_enter Tryz.func180,Tryz.ntmps180
   go_wp2_with fail
   go_loop [4,5,6] (λn b i=>n=.int .i64 0/\b=.int .i64 1/\i=.int .i64 0) (λ_ _ _=>0)
   case atStart=>exact⟨rfl,rfl,rfl⟩
   case round=>
    obtain⟨rfl,rfl,rfl⟩:=hrel
    go_wp2_with fail
    go_ret2;exact⟨by rw[v.out,E.out];rfl,rfl⟩
  ·have z:0<s.size:=by omega
   have S:=oJ s z;have G:Hid ((s.toList.headD 0==45)=decide ((s[0].toNat:Int)=45)):=by rw[Hid,ja s z];exact qY _ 45 (by omega)
   by_cases p:(s[0].toNat:Int)=45
   ·have B:Hid (aX s.toList=s.toList.drop 1):=by rw[Hid,aX,G.out,decide_eq_true p];rfl
    by_cases U:s.size=1
    ·have c:Hid (dK s.toList=false):=by
      rw[Hid,r.out,B.out,length_drop,ah,U];rfl
     go_enter Tryz.func180,Tryz.ntmps180
     go_wp2_with fail
     go_loop [4,5,6] (λn b i=>n=.int .i64 0/\b=.int .i64 1/\i=.int .i64 0) (λ_ _ _=>0)
     case atStart=>exact⟨rfl,rfl,rfl⟩
     case round=>
      obtain⟨rfl,rfl,rfl⟩:=hrel
      go_wp2_with fail
      go_ret2;exact⟨gq (bR c.out).symm c.out.symm,rfl⟩
    ·have V:1<s.size:=by omega
     have x:Hid (dK s.toList=qi (s.toList.drop 1) 0):=by
      rw[Hid,r.out,B.out,length_drop,ah,decide_eq_true (by omega)];rfl
     have y:Hid (jF (aX s.toList) 0=jF (s.toList.drop 1) 0):=by rw[Hid,B.out]
     have E:Hid (dK s.toList=true->mU s.toList= -(jF (aX s.toList) 0)):=by
      intro h;rw[mU,h,if_pos rfl,G.out,decide_eq_true p,if_pos rfl,B.out]
     clear B G r;go_enter Tryz.func180,Tryz.ntmps180
     go_wp2_with fail
     go_loop [4,5,6] (λR L Q=>∃(k:Nat) (n b:Int),k<=s.size/\R=.int .i64 n/\L=.int .i64 b/\Q=.int .i64 k/\0<=n/\n<=1000000000/\((k=0/\n=0/\b=1)\/(1<=k/\b= -1/\Hid (dK s.toList=qi (s.toList.drop k) n)/\Hid (jF (aX s.toList) 0=jF (s.toList.drop k) n)))) (λ_ _ i=>s.size- (intOf i).toNat)
     case atStart=>exact⟨0,0,1,zero_le _,rfl,rfl,rfl,by omega,by omega,.inl ⟨rfl,rfl,rfl⟩⟩
     case round=>
      obtain⟨k,n,b,W,rfl,rfl,rfl,O,P,F⟩:=hrel;rcases F with⟨rfl,rfl,rfl⟩|⟨X,rfl,j,q⟩
      ·go_wp2_with fail
       go_round
       case rel=>exact⟨1,0, -1,by omega,rfl,rfl,rfl,by omega,by omega,.inr ⟨by omega,rfl,x,y⟩⟩
       case measure=>simp[intOf];omega
      ·clear x y;have M:((k:Int)==0)=false:=by simp;omega
       by_cases t:k<s.size
       ·clear p;have f:=vM s k n t;replace f:Hid _:=f;have d:=vz s k n t;replace d:Hid _:=d;by_cases C:(s[k].toNat:Int)=45
        ·have c:Hid (dK s.toList=false):=by rw[Hid,j.out,f.out,C];simp
         go_wp2_with fail
         go_ret2;exact⟨gq (bR c.out).symm c.out.symm,rfl⟩
        ·by_cases a:(49<=(s[k].toNat:Int)/\(s[k].toNat:Int)<=57)\/((s[k].toNat:Int)=48/\0<n)
         ·have o:Hid ((decide (49<=(s[k].toNat:Int))&&decide ((s[k].toNat:Int)<=57)||(decide ((s[k].toNat:Int)=48)&&decide (0<n)))=true):=by rw[Hid];simpa using a
          have H:48<=(s[k].toNat:Int)/\(s[k].toNat:Int)<=57:=by omega
          by_cases g:10*n+(s[k].toNat- 48)<=1000000000
          ·have v:Hid (dK s.toList=qi (s.toList.drop (k+1)) (10*n+(s[k].toNat- 48))):=by
            rw[Hid,j.out,f.out,o.out,show n*10=10*n by omega,decide_eq_true g];rfl
           have m:Hid (jF (aX s.toList) 0=jF (s.toList.drop (k+1)) (10*n+(s[k].toNat- 48))):=by
            rw[Hid,q.out,d.out,show n*10=10*n by omega]
           clear o f d j q;rcases a with⟨l,u⟩|⟨l,u⟩
           ·go_wp2_with fail
            go_round
            case rel=>exact⟨k+1,10*n+(s[k].toNat- 48), -1,by omega,(by first|rfl|(rw[l];simp)),rfl,by go_num,by omega,by omega,.inr ⟨by omega,rfl,v,m⟩⟩
            case measure=>simp[intOf];omega
           ·have A:¬49<=(s[k].toNat:Int):=by omega
            go_wp2_with fail
            go_round
            case rel=>exact⟨k+1,10*n+(s[k].toNat- 48), -1,by omega,(by first|rfl|(rw[l];simp)),rfl,by go_num,by omega,by omega,.inr ⟨by omega,rfl,v,m⟩⟩
            case measure=>simp[intOf];omega
          ·have c:Hid (dK s.toList=false):=by rw[Hid,j.out,f.out,show n*10=10*n by omega,decide_eq_false g];simp
           clear o f d j q;rcases a with⟨l,u⟩|⟨l,u⟩
           ·go_wp2_with fail
            go_ret2;exact⟨gq (bR c.out).symm c.out.symm,rfl⟩
           ·have A:¬49<=(s[k].toNat:Int):=by omega
            go_wp2_with fail
            go_ret2;exact⟨gq (bR c.out).symm c.out.symm,rfl⟩
         ·have c:Hid (dK s.toList=false):=by
           have e:(decide (49<=(s[k].toNat:Int))&&decide ((s[k].toNat:Int)<=57)||(decide ((s[k].toNat:Int)=48)&&decide (0<n)))=false:=by
            rw[eq_false_iff];intro h;exact a (by simpa using h)
           rw[Hid,j.out,f.out,e];rfl
          clear f d j q;by_cases l:49<=(s[k].toNat:Int)
          ·have u:¬(s[k].toNat:Int)<=57:=λh=>a (.inl ⟨l,h⟩);clear a
           go_wp2_with fail
           go_ret2;exact⟨gq (bR c.out).symm c.out.symm,rfl⟩
          ·by_cases A:(s[k].toNat:Int)=48
           ·have T:¬0<n:=λh=>a (.inr ⟨A,h⟩);clear a
            go_wp2_with fail
            go_ret2;exact⟨gq (bR c.out).symm c.out.symm,rfl⟩
           ·clear a
            go_wp2_with fail
            go_ret2;exact⟨gq (bR c.out).symm c.out.symm,rfl⟩
       ·have D:=FJ s k n (by omega);have o:Hid (dK s.toList=true):=by rw[Hid,j.out,D.1]
        have K:Hid (mU s.toList= -n):=by rw[Hid,E.out o.out,q.out,D.2]
        clear D
        go_wp2_with fail
        go_ret2;exact⟨gq (by rw[K.out]) o.out.symm,rfl⟩
   ·have B:Hid (aX s.toList=s.toList):=by rw[Hid,aX,G.out,decide_eq_false p];rfl
    have x:Hid (dK s.toList=qi (s.toList.drop 0) 0):=by
     rw[Hid,r.out,B.out,ah,decide_eq_true z];rfl
    have y:Hid (jF (aX s.toList) 0=jF (s.toList.drop 0) 0):=by rw[Hid,B.out];rfl
    have E:Hid (dK s.toList=true->mU s.toList=jF (aX s.toList) 0):=by
     intro h;rw[mU,h,if_pos rfl,G.out,decide_eq_false p,if_neg Bool.false_ne_true,B.out]
    clear B G r;go_enter Tryz.func180,Tryz.ntmps180
    go_wp2_with fail
    go_loop [4,5,6] (λR L Q=>∃(k:Nat) (n:Int),k<=s.size/\R=.int .i64 n/\L=.int .i64 1/\Q=.int .i64 k/\0<=n/\n<=1000000000/\Hid (dK s.toList=qi (s.toList.drop k) n)/\Hid (jF (aX s.toList) 0=jF (s.toList.drop k) n)) (λ_ _ i=>s.size- (intOf i).toNat)
    case atStart=>exact⟨0,0,zero_le _,rfl,rfl,rfl,by omega,by omega,x,y⟩
    case round=>
     obtain⟨k,n,W,rfl,rfl,rfl,O,P,j,q⟩:=hrel;clear x y;by_cases t:k<s.size
     ·by_cases I:k=0
      ·have C:¬(s[k].toNat:Int)=45:=by have e:=I;subst e;exact p
       clear p I;have f:=vM s k n t;replace f:Hid _:=f;have d:=vz s k n t;replace d:Hid _:=d;by_cases a:(49<=(s[k].toNat:Int)/\(s[k].toNat:Int)<=57)\/((s[k].toNat:Int)=48/\0<n)
       ·have o:Hid ((decide (49<=(s[k].toNat:Int))&&decide ((s[k].toNat:Int)<=57)||(decide ((s[k].toNat:Int)=48)&&decide (0<n)))=true):=by rw[Hid];simpa using a
        have H:48<=(s[k].toNat:Int)/\(s[k].toNat:Int)<=57:=by omega
        by_cases g:10*n+(s[k].toNat- 48)<=1000000000
        ·have v:Hid (dK s.toList=qi (s.toList.drop (k+1)) (10*n+(s[k].toNat- 48))):=by
          rw[Hid,j.out,f.out,o.out,show n*10=10*n by omega,decide_eq_true g];rfl
         have m:Hid (jF (aX s.toList) 0=jF (s.toList.drop (k+1)) (10*n+(s[k].toNat- 48))):=by
          rw[Hid,q.out,d.out,show n*10=10*n by omega]
         clear o f d j q;rcases a with⟨l,u⟩|⟨l,u⟩
         ·go_wp2_with fail
          go_round
          case rel=>exact⟨k+1,10*n+(s[k].toNat- 48),by omega,(by first|rfl|(rw[l];simp)),rfl,by go_num,by omega,by omega,v,m⟩
          case measure=>simp[intOf];omega
         ·have A:¬49<=(s[k].toNat:Int):=by omega
          go_wp2_with fail
          go_round
          case rel=>exact⟨k+1,10*n+(s[k].toNat- 48),by omega,(by first|rfl|(rw[l];simp)),rfl,by go_num,by omega,by omega,v,m⟩
          case measure=>simp[intOf];omega
        ·have c:Hid (dK s.toList=false):=by rw[Hid,j.out,f.out,show n*10=10*n by omega,decide_eq_false g];simp
         clear o f d j q;rcases a with⟨l,u⟩|⟨l,u⟩
         ·go_wp2_with fail
          go_ret2;exact⟨gq (bR c.out).symm c.out.symm,rfl⟩
         ·have A:¬49<=(s[k].toNat:Int):=by omega
          go_wp2_with fail
          go_ret2;exact⟨gq (bR c.out).symm c.out.symm,rfl⟩
       ·have c:Hid (dK s.toList=false):=by
         have e:(decide (49<=(s[k].toNat:Int))&&decide ((s[k].toNat:Int)<=57)||(decide ((s[k].toNat:Int)=48)&&decide (0<n)))=false:=by
          rw[eq_false_iff];intro h;exact a (by simpa using h)
         rw[Hid,j.out,f.out,e];rfl
        clear f d j q;by_cases l:49<=(s[k].toNat:Int)
        ·have u:¬(s[k].toNat:Int)<=57:=λh=>a (.inl ⟨l,h⟩);clear a
         go_wp2_with fail
         go_ret2;exact⟨gq (bR c.out).symm c.out.symm,rfl⟩
        ·by_cases A:(s[k].toNat:Int)=48
         ·have T:¬0<n:=λh=>a (.inr ⟨A,h⟩);clear a
          go_wp2_with fail
          go_ret2;exact⟨gq (bR c.out).symm c.out.symm,rfl⟩
         ·clear a
          go_wp2_with fail
          go_ret2;exact⟨gq (bR c.out).symm c.out.symm,rfl⟩
      ·have M:((k:Int)==0)=false:=by simp;omega
       clear p;have f:=vM s k n t;replace f:Hid _:=f;have d:=vz s k n t;replace d:Hid _:=d;by_cases C:(s[k].toNat:Int)=45
       ·have c:Hid (dK s.toList=false):=by rw[Hid,j.out,f.out,C];simp
        go_wp2_with fail
        go_ret2;exact⟨gq (bR c.out).symm c.out.symm,rfl⟩
       ·by_cases a:(49<=(s[k].toNat:Int)/\(s[k].toNat:Int)<=57)\/((s[k].toNat:Int)=48/\0<n)
        ·have o:Hid ((decide (49<=(s[k].toNat:Int))&&decide ((s[k].toNat:Int)<=57)||(decide ((s[k].toNat:Int)=48)&&decide (0<n)))=true):=by rw[Hid];simpa using a
         have H:48<=(s[k].toNat:Int)/\(s[k].toNat:Int)<=57:=by omega
         by_cases g:10*n+(s[k].toNat- 48)<=1000000000
         ·have v:Hid (dK s.toList=qi (s.toList.drop (k+1)) (10*n+(s[k].toNat- 48))):=by
           rw[Hid,j.out,f.out,o.out,show n*10=10*n by omega,decide_eq_true g];rfl
          have m:Hid (jF (aX s.toList) 0=jF (s.toList.drop (k+1)) (10*n+(s[k].toNat- 48))):=by
           rw[Hid,q.out,d.out,show n*10=10*n by omega]
          clear o f d j q;rcases a with⟨l,u⟩|⟨l,u⟩
          ·go_wp2_with fail
           go_round
           case rel=>exact⟨k+1,10*n+(s[k].toNat- 48),by omega,(by first|rfl|(rw[l];simp)),rfl,by go_num,by omega,by omega,v,m⟩
           case measure=>simp[intOf];omega
          ·have A:¬49<=(s[k].toNat:Int):=by omega
           go_wp2_with fail
           go_round
           case rel=>exact⟨k+1,10*n+(s[k].toNat- 48),by omega,(by first|rfl|(rw[l];simp)),rfl,by go_num,by omega,by omega,v,m⟩
           case measure=>simp[intOf];omega
         ·have c:Hid (dK s.toList=false):=by rw[Hid,j.out,f.out,show n*10=10*n by omega,decide_eq_false g];simp
          clear o f d j q;rcases a with⟨l,u⟩|⟨l,u⟩
          ·go_wp2_with fail
           go_ret2;exact⟨gq (bR c.out).symm c.out.symm,rfl⟩
          ·have A:¬49<=(s[k].toNat:Int):=by omega
           go_wp2_with fail
           go_ret2;exact⟨gq (bR c.out).symm c.out.symm,rfl⟩
        ·have c:Hid (dK s.toList=false):=by
          have e:(decide (49<=(s[k].toNat:Int))&&decide ((s[k].toNat:Int)<=57)||(decide ((s[k].toNat:Int)=48)&&decide (0<n)))=false:=by
           rw[eq_false_iff];intro h;exact a (by simpa using h)
          rw[Hid,j.out,f.out,e];rfl
         clear f d j q;by_cases l:49<=(s[k].toNat:Int)
         ·have u:¬(s[k].toNat:Int)<=57:=λh=>a (.inl ⟨l,h⟩);clear a
          go_wp2_with fail
          go_ret2;exact⟨gq (bR c.out).symm c.out.symm,rfl⟩
         ·by_cases A:(s[k].toNat:Int)=48
          ·have T:¬0<n:=λh=>a (.inr ⟨A,h⟩);clear a
           go_wp2_with fail
           go_ret2;exact⟨gq (bR c.out).symm c.out.symm,rfl⟩
          ·clear a
           go_wp2_with fail
           go_ret2;exact⟨gq (bR c.out).symm c.out.symm,rfl⟩
     ·have D:=FJ s k n (by omega);have o:Hid (dK s.toList=true):=by rw[Hid,j.out,D.1]
      have K:Hid (mU s.toList=n):=by rw[Hid,E.out o.out,q.out,D.2]
      clear D
      go_wp2_with fail
      go_ret2;exact⟨gq (by rw[K.out]) o.out.symm,rfl⟩
theorem kN(c:UInt8)(n:Nat)(a:n<256):((c.toNat:Int)==(n:Int))=(c==UInt8.ofNat n):=by
 rw[qY c n a,Bool.eq_iff_iff];simp
theorem NM{l a b:Bs}(h:l=a++b):l[a.length]? =b[0]? :=by
 subst h;rw[List.getElem?_append_right (le_refl _)];simp
def wM(l:Bs):Nat:=(l.takeWhile (· != 46)).length
theorem zB(l:Bs):l=l.takeWhile (· != 46)++l.dropWhile (· != 46):=(List.takeWhile_append_dropWhile).symm
theorem Tm(s:ByteArray)(k:Nat)(h:k<wM s.toList)(b:k<s.size):((s[k].toNat:Int)==46)=false:=by
 have f:s.toList[k]'(by rw[ah];exact b)=s[k]:=ed s k b;have e:=zB s.toList;have c:s.toList[k]? =(s.toList.takeWhile (· != 46))[k]? :=by
  conv=>lhs;rw[e]
  rw[List.getElem?_append_left h]
 rw[List.getElem?_eq_getElem (by rw[ah];exact b),f,List.getElem?_eq_getElem h]at c;have g:=List.getElem_mem h;have d:((s.toList.takeWhile (· != 46))[k] != 46)=true:=by
  have:=List.all_takeWhile (l:=s.toList) (p:=(· != 46));rw[List.all_eq_true]at this;exact this _ g
 rw[<-Option.some.inj c]at d;have a:(s[k]==46)=false:=by simpa using d
 rw[<-a];exact kN s[k] 46 (by omega)
theorem Oi(s:ByteArray)(h:wM s.toList<s.size):((s[wM s.toList].toNat:Int)==46)=true:=by
 have e:=zB s.toList;have b:s.toList.length=wM s.toList+(s.toList.dropWhile (· != 46)).length:=by
  have:=congrArg List.length e;rwa[List.length_append]at this
 rw[ah]at b
 cases a:s.toList.dropWhile (· != 46)with
 |nil=>rw[a]at b;simp at b;omega
 |cons c r=>
  have g:(c != 46)=false:=by
   have:=List.head?_dropWhile_not (p:=(· != 46)) s.toList;rw[a]at this;simpa using this
  have d:s.toList[wM s.toList]? =some c:=by
   have:=NM e;rw[a]at this;exact this
  rw[List.getElem?_eq_getElem (by rw[ah];exact h),ed s _ h]at d;have f:=Option.some.inj d;rw[f];have:c=46:=by simpa using g
  rw[this];rfl
theorem Ch(s:ByteArray):s.toList.contains 46=decide (wM s.toList<s.size):=by
 cases d:s.toList.contains 46 with
 |true=>have:=(pK s.toList 46 d).2.1;rw[ah]at this;symm;exact decide_eq_true this
 |false=>
  symm;rw[decide_eq_false_iff_not];intro h;have:=Oi s h;have b:s.toList.contains 46=true:=by
   rw[List.contains_iff_mem];have e:=ed s _ h;have a:s[wM s.toList]=46:=by
    have c:=this;rw[show((46:Int))=((46:Nat):Int)from rfl]at c;apply UInt8.toNat_inj.mp;simp at c ⊢;omega
   rw[<-a,<-e];exact List.getElem_mem _
  rw[d]at b;cases b
theorem je(s:ByteArray)(w:World)(J:s.size<=maxLen):
  Calls prog 181 #[.string s] w λe w'=>Below w.heap.size w w'/\∃x y:ByteArray,e=.returned (.tuple #[.string x,.string y,.bool (iV s.toList)])/\
   (iV s.toList=true->x.toList=s.toList.takeWhile (· != 46)/\y.toList=(s.toList.dropWhile (· != 46)).drop 1):=by
 have N:=J;unfold maxLen at J;obtain⟨d,m⟩:∃d,d=wM s.toList:=⟨_,rfl⟩;have l:∀k,k<d->∀o:k<s.size,((s[k].toNat:Int)==46)=false:=λk h o=>Tm s k (by omega) o;have u:∀o:d<s.size,((s[d].toNat:Int)==46)=true:=by subst m;exact λo=>Oi s o
 have b:s.toList.contains 46=decide (d<s.size):=by rw[m];exact Ch s
 have j:d<s.size->iV s.toList=(aU (s.toList.take d)&&aU (s.toList.drop (d+1))):=by
  intro h;have r:=pK s.toList 46 (by rw[b];simpa using h);have L:s.toList.take d=s.toList.takeWhile (· != 46):=by rw[m];exact r.2.2.1
  have M:s.toList.drop (d+1)=(s.toList.dropWhile (· != 46)).drop 1:=by rw[<-r.2.2.2,drop_drop];congr 1;rw[m];rfl
  rw[iV,b,decide_eq_true h,L,M];rfl
 have c:d<s.size->s.toList.take d=s.toList.takeWhile (· != 46)/\s.toList.drop (d+1)=(s.toList.dropWhile (· != 46)).drop 1:=by
  intro h;have r:=pK s.toList 46 (by rw[b];simpa using h);exact⟨by rw[m];exact r.2.2.1,by rw[<-r.2.2.2,drop_drop];congr 1;rw[m];rfl⟩
 have C:Hid _:=l;have D:Hid _:=u;have E:Hid _:=b;have F:Hid _:=j;have G:Hid _:=c;clear m l u b j c;go_enter Tryz.func181,Tryz.ntmps181
 go_wp2_with fail
 go_loop [5,6] (λK O=>∃(k:Nat) (a:Int),k<=s.size/\O=.int .i64 k/\K=.int .i64 a/\((a= -1/\k<=d)\/(a=d/\d<k))) (λ_ i=>s.size- (intOf i).toNat)
 case atStart=>exact⟨0, -1,zero_le _,rfl,rfl,.inl ⟨rfl,zero_le _⟩⟩
 case round=>
  obtain⟨k,a,o,rfl,rfl,f⟩:=hrel;by_cases B:k<s.size
  ·rcases f with⟨rfl,n⟩|⟨rfl,n⟩
   ·by_cases A:k<d
    ·have t:=C.out k A B
     go_wp2_with fail
     go_round
     case rel=>exact⟨k+1, -1,by omega,by go_num,rfl,.inl ⟨rfl,by omega⟩⟩
     case measure=>simp[intOf];omega
    ·have g:k=d:=by omega
     have t:((s[k].toNat:Int)==46)=true:=by subst g;exact D.out B
     have I:Hid (k=d):=g;clear g
     go_wp2_with fail
     go_round
     case rel=>exact⟨k+1,k,by omega,by go_num,rfl,.inr ⟨by rw[I.out],by rw[I.out];omega⟩⟩
     case measure=>simp[intOf];omega
   ·cases t:((s[k].toNat:Int)==46)with
    |true=>
     go_wp2_with fail
     go_round
     case rel=>exact⟨k+1,d,by omega,by go_num,rfl,.inr ⟨rfl,by omega⟩⟩
     case measure=>simp[intOf];omega
    |false=>
     go_wp2_with fail
     go_round
     case rel=>exact⟨k+1,d,by omega,by go_num,rfl,.inr ⟨rfl,by omega⟩⟩
     case measure=>simp[intOf];omega
  ·rcases f with⟨rfl,n⟩|⟨rfl,n⟩
   ·have H:Hid (iV s.toList=false):=by
     rw[Hid,iV,E.out,decide_eq_false (by omega)];rfl
    go_wp2_with fail
    go_ret3;exact⟨refl _ _,⟨#[]⟩,⟨#[]⟩,by rw[H.out];rfl,λh=>by rw[H.out]at h;cases h⟩
   ·have z:d<s.size:=by omega
    have p:=F.out z;replace p:Hid _:=p;have q:=G.out z;replace q:Hid _:=q;have P:(s.extract 0 d).size<=maxLen:=by unfold maxLen;simp;omega
    have z2:(s.extract (d+1) s.size).size<=maxLen:=by unfold maxLen;simp;omega
    rw[<-uA,<-qJ]at p q;clear C D E F G
    cases v:aU (s.extract 0 d).toList with
    |true=>
     go_wp2_with(go_at_call 112;refine(gG _ _ (by assumption)).mono ?_;rintro e w2 ⟨rfl,rfl⟩)
     go_region;all_goals(try go_wp2)
     all_goals go_ret3
     exact⟨drew (refl _ _),_,_,by rw[p.out,v];rfl,λ_=>q.out⟩
    |false=>
     go_wp2_with(go_at_call 112;refine(gG _ _ (by assumption)).mono ?_;rintro e w2 ⟨rfl,rfl⟩)
     go_region;all_goals(try go_wp2)
     all_goals go_ret3
     exact⟨drew (refl _ _),_,_,by rw[p.out,v];rfl,λ_=>q.out⟩
def gm(l:Bs):Bool:=dK l||iV l||cB l||iX l||iC l
theorem FQ(l:Bs):decide (0<=iJ l)=iC l:=by
 unfold iJ
 cases h:iC l with
 |false=>rfl
 |true=>
  unfold iC at h;simp only[and_eq_true]at h;have b:=jW h.1.2;have a:¬(l.getD 1 0).toNat=48:=by
   intro e;have:l.getD 1 0=48:=UInt8.toNat_inj.mp e;rw[this]at h;simp at h
  rw[if_pos rfl];exact decide_eq_true (by omega)
theorem wY(s:ByteArray)(w:World)(b:s.size<=maxLen):
  Calls prog 109 #[.string s] w λe w'=>e=.returned (.bool (gm s.toList))/\Below w.heap.size w w':=by
 have m:Hid _:=FQ s.toList;have c:Hid (gm s.toList=(dK s.toList||iV s.toList||cB s.toList||iX s.toList||iC s.toList)):=rfl
 cases d:dK s.toList with
 |true=>
  go_enter Tryz.func109,Tryz.ntmps109
  go_wp2_with(go_at_call 180;refine(eO _ _ b).mono ?_;rintro e w2 ⟨rfl,rfl⟩)
  refine(je _ _ b).mono ?_;rintro e g ⟨a,x,y,rfl,_⟩
  go_wp2_with(first|(go_at_call 182;refine(iK _ _ b).mono ?_;rintro e h ⟨rfl,rfl⟩)|(go_at_call 113;refine(dx _ _).mono ?_;rintro e i ⟨rfl,rfl⟩)|(go_at_call 183;refine(dG _ _).mono ?_;rintro e j ⟨rfl,rfl⟩))
  go_ret;exact⟨ay (by rw[c.out,d];rfl),a⟩
 |false=>
  cases f:iV s.toList with
  |true=>
   go_enter Tryz.func109,Tryz.ntmps109
   go_wp2_with(go_at_call 180;refine(eO _ _ b).mono ?_;rintro e w2 ⟨rfl,rfl⟩)
   refine(je _ _ b).mono ?_;rintro e g ⟨a,x,y,rfl,_⟩
   go_wp2_with(first|(go_at_call 182;refine(iK _ _ b).mono ?_;rintro e h ⟨rfl,rfl⟩)|(go_at_call 113;refine(dx _ _).mono ?_;rintro e i ⟨rfl,rfl⟩)|(go_at_call 183;refine(dG _ _).mono ?_;rintro e j ⟨rfl,rfl⟩))
   go_ret;exact⟨ay (by rw[c.out,d,f];rfl),a⟩
  |false=>
   cases k:cB s.toList with
   |true=>
    go_enter Tryz.func109,Tryz.ntmps109
    go_wp2_with(go_at_call 180;refine(eO _ _ b).mono ?_;rintro e w2 ⟨rfl,rfl⟩)
    refine(je _ _ b).mono ?_;rintro e g ⟨a,x,y,rfl,_⟩
    go_wp2_with(first|(go_at_call 182;refine(iK _ _ b).mono ?_;rintro e h ⟨rfl,rfl⟩)|(go_at_call 113;refine(dx _ _).mono ?_;rintro e i ⟨rfl,rfl⟩)|(go_at_call 183;refine(dG _ _).mono ?_;rintro e j ⟨rfl,rfl⟩))
    go_ret;exact⟨ay (by rw[c.out,d,f,k];rfl),a⟩
   |false=>
    cases l:iX s.toList with
    |true=>
     go_enter Tryz.func109,Tryz.ntmps109
     go_wp2_with(go_at_call 180;refine(eO _ _ b).mono ?_;rintro e w2 ⟨rfl,rfl⟩)
     refine(je _ _ b).mono ?_;rintro e g ⟨a,x,y,rfl,_⟩
     go_wp2_with(first|(go_at_call 182;refine(iK _ _ b).mono ?_;rintro e h ⟨rfl,rfl⟩)|(go_at_call 113;refine(dx _ _).mono ?_;rintro e i ⟨rfl,rfl⟩)|(go_at_call 183;refine(dG _ _).mono ?_;rintro e j ⟨rfl,rfl⟩))
     go_ret;exact⟨ay (by rw[c.out,d,f,k,l];rfl),a⟩
    |false=>
     go_enter Tryz.func109,Tryz.ntmps109
     go_wp2_with(go_at_call 180;refine(eO _ _ b).mono ?_;rintro e w2 ⟨rfl,rfl⟩)
     refine(je _ _ b).mono ?_;rintro e g ⟨a,x,y,rfl,_⟩
     go_wp2_with(first|(go_at_call 182;refine(iK _ _ b).mono ?_;rintro e h ⟨rfl,rfl⟩)|(go_at_call 113;refine(dx _ _).mono ?_;rintro e i ⟨rfl,rfl⟩)|(go_at_call 183;refine(dG _ _).mono ?_;rintro e j ⟨rfl,rfl⟩))
     go_ret;exact⟨ay (by rw[c.out,d,f,k,l,<-m.out];rfl),a⟩
def aW(l:List Bs)(x:Bs):Bool:=l.contains x
theorem Au(l:List Bs)(s:ByteArray)(w:World)(b c cap:Nat)(t:l.length<=cap)(m:cap<=100000)(j:∀i (h:i<l.length),w.cell? ⟨b,c+i,none⟩=some (.string (aa l[i]))):
  Calls prog 114 #[.slice (some ⟨b,c,none⟩) l.length cap,.string s] w λe w'=>e=.returned (.bool (aW l s.toList))/\w'=w:=by
 have o:Hid _:=j;clear j;go_enter Tryz.func114,Tryz.ntmps114
 go_wp2_with fail
 go_loop [5] (λq=>∃k:Nat,k<=l.length/\q=.int .i64 k/\Hid (aW l s.toList=aW (l.drop k) s.toList)) (λi=>l.length- (intOf i).toNat)
 case atStart=>exact⟨0,zero_le _,rfl,rfl⟩
 case round=>
  obtain⟨k,r,rfl,d⟩:=hrel;by_cases a:k<l.length
  ·have f:=o.out k a;have g:Hid (aW (l.drop k) s.toList=(l[k]==s.toList||aW (l.drop (k+1)) s.toList)):=by
    unfold aW;rw[Hid,List.drop_eq_getElem_cons a,List.contains_cons];congr 1;rw[Bool.eq_iff_iff];simp;exact eq_comm
   have u:(aa l[k]).toList=l[k]:=au _
   cases n:(l[k]==s.toList)with
   |true=>
    go_wp2_with fail
    go_ret;exact⟨ay (by rw[d.out,g.out,n];rfl),rfl⟩
   |false=>
    go_wp2_with fail
    go_round
    case rel=>exact⟨k+1,by omega,by go_num,by rw[Hid,d.out,g.out,n];rfl⟩
    case measure=>simp[intOf];omega
  ·have p:Hid (aW (l.drop k) s.toList=false):=by
    rw[Hid,drop_of_length_le (by omega)];rfl
   go_wp2_with fail
   go_ret;exact⟨ay (by rw[d.out,p.out]),rfl⟩
def gp:List Bs:=[[43],[45],[42],[47],[61],[60],[60,61]]
theorem nS(l:Bs):aW gp l=jD l:=by
 unfold aW gp jD;simp only[List.contains_cons,List.contains_nil,Bool.or_false];simp only[Bool.or_assoc]
def oI(l:Bs):Bool:=jD l||(aU l&& !iX l)
theorem wZ(s:ByteArray)(w:World)(f:s.size<=maxLen):
  Calls prog 108 #[.string s] w λe w'=>e=.returned (.bool (oI s.toList))/\Below w.heap.size w w':=by
 have c:∀x:World,Calls prog 179 #[] x λe w'=>e=.returned (.slice (some ⟨x.heap.size,0,none⟩) 7 7)/\w'=x.alloc (.cells (gp.map λt=>Value.string (aa t)).toArray 9):=by
  intro x;go_enter Tryz.func179,Tryz.ntmps179
  go_wp2
  go_ret;exact⟨rfl,rfl⟩
 have b:∀x:World,x.heap[w.heap.size]? =some (.cells (gp.map λt=>Value.string (aa t)).toArray 9 (0,0))->Calls prog 114 #[.slice (some ⟨w.heap.size,0,none⟩) 7 7,.string s] x λe w'=>e=.returned (.bool (jD s.toList))/\w'=x:=by
  intro x p;rw[<-nS];refine Au gp s x w.heap.size 0 7 (by decide) (by omega) (λi h=> ?_);have n:i<gp.length:=h;simp[World.cell?,p,n]
 have a:Hid (oI s.toList=(jD s.toList||(aU s.toList&& !iX s.toList))):=rfl;obtain⟨o,d⟩:∃o,o=Obj.cells (gp.map λt=>Value.string (aa t)).toArray 9:=⟨_,rfl⟩;rw[<-d]at b;simp only[<-d]at c;clear d
 cases g:jD s.toList with
 |true=>
  rw[g]at a;go_enter Tryz.func108,Tryz.ntmps108
  go_wp2_with(first|(go_at_call 179;refine(c _).mono ?_;rintro e w2 ⟨rfl,rfl⟩)|(go_at_call 114;refine(b _ (bN w o)).mono ?_;rintro e k ⟨rfl,rfl⟩)|(go_at_call 112;refine(gG _ _ f).mono ?_;rintro e l ⟨rfl,rfl⟩)|(go_at_call 113;refine(dx _ _).mono ?_;rintro e m ⟨rfl,rfl⟩))
  go_ret;exact⟨ay (by rw[a.out];rfl),(refl _ _).alloc (le_refl _) _⟩
 |false=>
  rw[g]at a
  cases j:aU s.toList with
  |true=>
   rw[j]at a;go_enter Tryz.func108,Tryz.ntmps108
   go_wp2_with(first|(go_at_call 179;refine(c _).mono ?_;rintro e w2 ⟨rfl,rfl⟩)|(go_at_call 114;refine(b _ (bN w o)).mono ?_;rintro e k ⟨rfl,rfl⟩)|(go_at_call 112;refine(gG _ _ f).mono ?_;rintro e l ⟨rfl,rfl⟩)|(go_at_call 113;refine(dx _ _).mono ?_;rintro e m ⟨rfl,rfl⟩))
   go_ret;exact⟨ay (by rw[a.out];rfl),(refl _ _).alloc (le_refl _) _⟩
  |false=>
   rw[j]at a;go_enter Tryz.func108,Tryz.ntmps108
   go_wp2_with(first|(go_at_call 179;refine(c _).mono ?_;rintro e w2 ⟨rfl,rfl⟩)|(go_at_call 114;refine(b _ (bN w o)).mono ?_;rintro e k ⟨rfl,rfl⟩)|(go_at_call 112;refine(gG _ _ f).mono ?_;rintro e l ⟨rfl,rfl⟩)|(go_at_call 113;refine(dx _ _).mono ?_;rintro e m ⟨rfl,rfl⟩))
   go_ret;exact⟨ay (by rw[a.out];rfl),(refl _ _).alloc (le_refl _) _⟩
theorem kI{l:Bs}(h:aU l=true):jD l=false/\dK l=false/\cB l=false/\iC l=false/\iV l=false/\(l== [40])=false/\(l== [41])=false:=by
 unfold aU at h;simp only[and_eq_true,decide_eq_true_eq]at h;obtain⟨⟨⟨y,_⟩,j⟩,z⟩:=h
 cases l with
 |nil=>simp at y
 |cons c r=>
  rw[headD_cons]at j;have B:97<=(c.toNat:Int)/\(c.toNat:Int)<=122:=by unfold eB at j;simpa using j
  have b:∀n:Nat,n<97->(c==UInt8.ofNat n)=false:=by
   intro n C;rw[qY c n (by omega)];simp;omega
  have s:=b 43 (by omega);have g:=b 45 (by omega);have q:=b 42 (by omega);have u:=b 47 (by omega);have w:=b 61 (by omega);have i:=b 60 (by omega);have v:=b 48 (by omega);have m:=b 39 (by omega);have k:=b 36 (by omega);have o:=b 40 (by omega);have p:=b 41 (by omega);have a:∀(d:UInt8) (t:Bs),(c==d)=false->((c::r)==(d::t))=false:=by
   intro d t A;rw[List.cons_beq_cons,A];rfl
  have f:(c::r).contains 46=false:=by
   rw[eq_false_iff];intro x;rw[List.contains_iff_mem]at x;have:=List.all_eq_true.mp z 46 x;simp[zK,eB,bQ]at this
  refine⟨?_, ?_, ?_, ?_, ?_,a 40 [] o,a 41 [] p⟩
  ·unfold jD;rw[a 43 [] s,a 45 [] g,a 42 [] q,a 47 [] u,a 61 [] w,a 60 [] i,a 60 [61] i];rfl
  ·rw[AY _ (a 48 [] v)];have e:aX (c::r)=c::r:=by unfold aX;rw[if_neg];rw[headD_cons];intro h;rw[show(45:UInt8)=UInt8.ofNat 45 from rfl,g]at h;cases h
   rw[e,qi];have:(decide (49<=(c.toNat:Int))&&decide ((c.toNat:Int)<=57)||(decide ((c.toNat:Int)=48)&&decide ((0:Int)<0)))=false:=by simp;omega
   rw[this];simp
  ·unfold cB;have:((c::r).getD 0 0==39)=false:=m;rw[this];simp
  ·unfold iC;have:((c::r).headD 0==36)=false:=k;rw[this];simp
  ·unfold iV;rw[f];rfl
theorem AU{l:Bs}(a:aM (l.headD 0).toNat=false):jU (aT l) l=oI l:=by
 have hb:(l== [40])=false/\(l== [41])=false:=by
  constructor
  ·rw[eq_false_iff];intro h;rw[beq_iff_eq]at h;subst h;cases a
  ·rw[eq_false_iff];intro h;rw[beq_iff_eq]at h;subst h;cases a
 unfold aT oI;rw[hb.1,hb.2,if_neg Bool.false_ne_true,if_neg Bool.false_ne_true]
 cases e:jD l with
 |true=>rw[if_pos rfl];rfl
 |false=>
  rw[if_neg Bool.false_ne_true,Bool.false_or]
  cases b:aU l with
  |true=>
   have f:=kI b;rw[f.2.1,f.2.2.1,f.2.2.2.1,if_neg Bool.false_ne_true,if_neg Bool.false_ne_true,if_neg Bool.false_ne_true,if_pos rfl];rfl
  |false=>
   have:∀k:Int,k≠8->k≠5->jU k l=false:=by intro k d c;simp[jU,d,c]
   rw[Bool.false_and];split
   ·exact this 3 (by decide) (by decide)
   ·split
    ·exact this 4 (by decide) (by decide)
    ·split
     ·exact this 7 (by decide) (by decide)
     ·rw[if_neg Bool.false_ne_true];split
      ·exact this 6 (by decide) (by decide)
      ·exact this 0 (by decide) (by decide)
theorem uW{l:Bs}(h:iX l=true):aU l=true:=by
 unfold iX at h;simp only[Bool.or_eq_true,beq_iff_eq]at h;rcases h with(h|h)|h<;>(subst h;decide)
theorem vN{l:Bs}(h:jD l=true):gm l=false/\iX l=false:=by
 unfold jD at h;simp only[Bool.or_eq_true,beq_iff_eq]at h;rcases h with(((((h|h)|h)|h)|h)|h)|h<;>(subst h;decide)
theorem Aw{l:Bs}(i:aM (l.headD 0).toNat=false):fZ (aT l) l=gm l:=by
 have hb:(l== [40])=false/\(l== [41])=false:=by
  constructor
  ·rw[eq_false_iff];intro h;rw[beq_iff_eq]at h;subst h;cases i
  ·rw[eq_false_iff];intro h;rw[beq_iff_eq]at h;subst h;cases i
 unfold aT;rw[hb.1,hb.2,if_neg Bool.false_ne_true,if_neg Bool.false_ne_true]
 cases j:jD l with
 |true=>
  have:=vN j;rw[if_pos rfl,this.1];unfold fZ;rw[this.2];rfl
 |false=>
  rw[if_neg Bool.false_ne_true]
  cases b:dK l with
  |true=>rw[if_pos rfl];unfold gm;rw[b];rfl
  |false=>
   rw[if_neg Bool.false_ne_true]
   cases c:cB l with
   |true=>rw[if_pos rfl];unfold gm;rw[c];simp[fZ]
   |false=>
    rw[if_neg Bool.false_ne_true]
    cases d:iC l with
    |true=>rw[if_pos rfl];unfold gm;rw[d];simp[fZ]
    |false=>
     rw[if_neg Bool.false_ne_true]
     cases e:aU l with
     |true=>
      have f:=kI e;rw[if_pos rfl];unfold gm;rw[b,c,d,f.2.2.2.2.1];simp[fZ]
     |false=>
      have a:iX l=false:=by
       cases a:iX l with
       |false=>rfl
       |true=>rw[uW a]at e;cases e
      rw[if_neg Bool.false_ne_true]
      cases g:iV l with
      |true=>rw[if_pos rfl];unfold gm;rw[g];simp[fZ]
      |false=>rw[if_neg Bool.false_ne_true];unfold gm;rw[b,c,d,g,a];simp[fZ,a]
def qg(c:UInt8):Bool:=eF c.toNat
def kG(l:Bs):Nat:=(l.takeWhile qg).length
def dN(w:World)(rb:Nat)(s:ByteArray)(k:Nat)(v:Value):Prop:=w.heap[rb]? =some (.cells #[.string s,.int .i64 k,v] 180 (0,0))
theorem eX{x:World}{b:Nat}{a0 a1 a2:Value}{T:TypeId}(h:x.heap[b]? =some (.cells #[a0,a1,a2] T (0,0))):
  (x.cell? ⟨b,0,none⟩=some a0/\x.cell? ⟨b,1,none⟩=some a1/\x.cell? ⟨b,2,none⟩=some a2)/\(x.frozen? ⟨b,1,none⟩=false/\x.frozen? ⟨b,2,none⟩=false):=by
 simp[World.cell?,World.frozen?,h]
theorem dN.set{w:World}{a:Nat}{s:ByteArray}{k:Nat}{v:Value}(h:dN w a s k v)(b:Nat):dN (w.setCell ⟨a,1,none⟩ (.int .i64 b)) a s b v:=by
 unfold dN at*;simp[World.setCell,Array.getElem?_modify,h]
theorem dN.inc{w:World}{a:Nat}{s:ByteArray}{k:Nat}{v:Value}(h:dN w a s k v):dN (w.setCell ⟨a,1,none⟩ (.int .i64 ((k:Int)+1))) a s (k+1) v:=h.set (k+1)
theorem dN.lt{w:World}{rb:Nat}{s:ByteArray}{k:Nat}{v:Value}(h:dN w rb s k v):rb<w.heap.size:=ai h
theorem gD{a w:World}{row:Option Nat}(h:a.grownBy w row)(n:Nat):a.grownBy (w.drewN n) row:=⟨h.os,h.tape,h.output,h.size,h.block⟩
theorem dN.drewN{w:World}{a:Nat}{s:ByteArray}{k:Nat}{v:Value}(h:dN w a s k v)(n:Nat):dN (w.drewN n) a s k v:=h
theorem RQ(s:ByteArray)(k:Nat)(h:k<s.size):kG (s.toList.drop k)=if qg s[k]then kG (s.toList.drop (k+1))+1 else 0:=by
 unfold kG;rw[drop_cons s k h,List.takeWhile_cons];split<;>simp
theorem TQ(s:ByteArray)(k:Nat)(h:s.size<=k):kG (s.toList.drop k)=0:=by
 unfold kG;rw[drop_of_length_le (by rw[ah];exact h)];rfl
theorem jR(s:ByteArray)(y:s.size<=400)(w:World)(d a:Nat)(v:Value)(h:dN w d s a v)(n:a<=s.size):
  Calls prog 106 #[.pointer (some ⟨d,0,none⟩)] w λe w'=>e=.returned (.bool (decide (0<kG (s.toList.drop a))))/\a+kG (s.toList.drop a)<=s.size/\w.grownBy w' (some d)/\dN w' d s (a+kG (s.toList.drop a)) v:=by
 obtain⟨⟨q,r,t⟩,f1,f2⟩:=eX h;go_enter Tryz.func106,Tryz.ntmps106
 go_wp2_with fail
 go_loopg [8] (s.size- a) (λgk _ wr=>∃k:Nat,gk=s.size- k/\k<=s.size/\a<=k/\Hid (a+kG (s.toList.drop a)=k+kG (s.toList.drop k))/\w.grownBy wr (some d)/\dN wr d s k v)
 case atStart=>exact⟨a,rfl,n,le_refl _,rfl,fF _ _,h⟩
 case round=>
  clear q r t f1 f2;obtain⟨k,m,p,x,f,l,i⟩:=hrel;subst m;obtain⟨⟨q,r,t⟩,f1,f2⟩:=eX i;by_cases o:k<s.size
  ·have g:=RQ s k o;replace g:Hid _:=g;by_cases hb:eF s[k].toNat=true
   ·have b:Hid (a+kG (s.toList.drop a)=(k+1)+kG (s.toList.drop (k+1))):=by
     rw[Hid,f.out,g.out,qg,hb];simp;omega
    go_wp2_with fail
    go_quiet ((go_at_call 177;exact Calls.quiet_of_same (lM _ _)))
    go_wp2_with fail
    go_roundg (s.size- (k+1))
    case measure=>omega
    case rel=>exact⟨k+1,rfl,by omega,by omega,b,gD (aB l (eu _ _ _ _)) _,(i.inc).drewN _⟩
   ·rw[not_eq_true]at hb;have b:Hid (kG (s.toList.drop k)=0):=by rw[Hid,g.out,qg,hb];rfl
    have c:Hid (a+kG (s.toList.drop a)=k):=by rw[Hid,f.out,b.out];rfl
    have j:Hid (decide (0<kG (s.toList.drop a))=decide (a<k)):=by rw[Hid,decide_eq_decide];have:=c.out;omega
    clear f g b
    go_wp2_with fail
    go_quiet ((go_at_call 177;exact Calls.quiet_of_same (lM _ _)))
    go_wp2_with fail
    go_ret;exact⟨ay j.out.symm,by rw[c.out];exact p,gD l _,by rw[c.out];exact i⟩
  ·have b:Hid (kG (s.toList.drop k)=0):=TQ s k (by omega);have c:Hid (a+kG (s.toList.drop a)=k):=by rw[Hid,f.out,b.out];rfl
   have j:Hid (decide (0<kG (s.toList.drop a))=decide (a<k)):=by rw[Hid,decide_eq_decide];have:=c.out;omega
   have u:decide ((k:Int)<(s.size:Int))=false:=by simp;omega
   clear f b
   go_wp2_with fail
   go_quiet ((go_at_call 177;exact Calls.quiet_of_same (lM _ _)))
   go_wp2_with fail
   go_ret;exact⟨ay j.out.symm,by rw[c.out];exact p,gD l _,by rw[c.out];exact i⟩
def jP(c:UInt8):Bool:= !eF c.toNat&& !aM c.toNat&& !(c==39)
def oO:Bs->Nat
 | []=>0
 |c::r=>if c==39 then 1 else oO r+1
def ql:Bs->Nat
 | []=>0
 |c::r=>if jP c then ql r+1 else 0
def bU(l:Bs):Nat:=1+(if l.headD 0==39 then oO (l.drop 1)else ql (l.drop 1))
theorem RH(l:Bs):oO l<=l.length:=by
 induction l with
 |nil=>simp[oO]
 |cons c r ih=>rw[oO];split<;>simp;omega
theorem RG(l:Bs):ql l<=l.length:=by
 induction l with
 |nil=>simp[ql]
 |cons c r ih=>rw[ql];split<;>simp;omega
theorem GU(l:Bs)(h:0<l.length):bU l<=l.length:=by
 unfold bU;have a:=RH (l.drop 1);have b:=RG (l.drop 1);rw[length_drop]at a b;split<;>omega
theorem MN(s:ByteArray)(k:Nat)(h:k<s.size):oO (s.toList.drop k)=if s[k]==39 then 1 else oO (s.toList.drop (k+1))+1:=by rw[drop_cons s k h,oO]
theorem MM(s:ByteArray)(k:Nat)(h:k<s.size):ql (s.toList.drop k)=if jP s[k]then ql (s.toList.drop (k+1))+1 else 0:=by rw[drop_cons s k h,ql]
theorem RI(s:ByteArray)(k:Nat)(h:s.size<=k):oO (s.toList.drop k)=0/\ql (s.toList.drop k)=0:=by
 rw[drop_of_length_le (by rw[ah];exact h)];exact⟨rfl,rfl⟩
theorem dB{a w:World}{row:Option Nat}(h:a.grownBy w row):a.grownBy w.drew row:=⟨h.os,h.tape,h.output,h.size,h.block⟩
theorem dN.drew{w:World}{a:Nat}{s:ByteArray}{k:Nat}{v:Value}(h:dN w a s k v):dN w.drew a s k v:=h
theorem Gn(s:ByteArray)(i:Nat)(h:i<s.size):(s.toList.drop i).isEmpty=false/\(s.toList.drop i).headD 0=s[i]:=by
 rw[drop_cons s i h];exact⟨rfl,rfl⟩
theorem QS(s:ByteArray)(k n:Nat):(s.extract k (k+n)).toList=(s.toList.drop k).take n:=by
 rw[ByteArray.toList_eq,ByteArray.data_extract,Array.toList_extract,<-ByteArray.toList_eq,List.extract_eq_take_drop,Nat.add_sub_cancel_left]
def mD(l:Bs)(n:Nat):Bool:=decide (0<kG (l.drop n))||(l.drop n).isEmpty||aM ((l.drop n).headD 0).toNat
def cO(l:Bs):Bs:=if mD l (bU l)then l.take (bU l)else []
theorem zA(s:ByteArray)(w:World)(c k:Nat)(v:Value)(h:dN w c s k v)(d:k<=s.size)(b:k=s.size\/∃a:k<s.size,aM s[k].toNat=true):
  Calls prog 107 #[.pointer (some ⟨c,0,none⟩)] w λe w'=>e=.returned (.string ⟨#[]⟩)/\w'=w:=by
 obtain⟨⟨f,g,i⟩,f1,f2⟩:=eX h;by_cases a:k<s.size
 ·have hb:aM s[k].toNat=true:=by rcases b with h|⟨_,h⟩;omega;exact h
  clear b;go_enter Tryz.func107,Tryz.ntmps107
  go_wp2_with(go_at_call 178;refine(eH _ _).mono ?_;rintro e w2 ⟨rfl,rfl⟩)
  go_ret;exact⟨rfl,rfl⟩
 ·clear b;go_enter Tryz.func107,Tryz.ntmps107
  go_wp2_with(go_at_call 178;refine(eH _ _).mono ?_;rintro e w2 ⟨rfl,rfl⟩)
  go_ret;exact⟨rfl,rfl⟩
theorem tQ(s:ByteArray)(hs:s.size<=400)(w:World)(C k:Nat)(v:Value)(h:dN w C s k v)(a0:k<s.size)(hb:aM s[k].toNat=false):
  Calls prog 107 #[.pointer (some ⟨C,0,none⟩)] w λe w'=>e=.returned (.string (aa (cO (s.toList.drop k))))/\
   (∃k',k'=k+bU (s.toList.drop k)+kG (s.toList.drop (k+bU (s.toList.drop k)))/\k'<=s.size/\w.grownBy w' (some C)/\dN w' C s k' v):=by
 obtain⟨⟨O,H,P⟩,f1,f2⟩:=eX h;obtain⟨q,hq⟩:∃q,q=(s[k]==39):=⟨_,rfl⟩;have W:Hid (k+bU (s.toList.drop k)=(k+1)+(if q then oO (s.toList.drop (k+1))else ql (s.toList.drop (k+1)))):=by
  rw[Hid,hq,bU,drop_cons s k a0];simp only[headD_cons,List.drop_succ_cons,List.drop_zero];omega
 have a6:((s[k].toNat:Int)==39)=q:=by rw[hq];exact kN s[k] 39 (by omega)
 have M:=GU (s.toList.drop k) (by rw[length_drop,ah];omega);rw[length_drop,ah]at M;clear hq;have a2:decide (s.size<=k)=false:=by simp;omega
 have a1:decide ((s.size:Int)<=(k:Int))=false:=by simp;omega
 have f:∀(c:Int) (x:World),Calls prog 178 #[.int .u8 c] x λe w'=>e=.returned (.bool (aM c))/\x=w':=λc x=>(eH c x).mono λe w' h=>⟨h.1,h.2.symm⟩;have m:∀(c:Int) (x:World),Calls prog 177 #[.int .u8 c] x λe w'=>e=.returned (.bool (eF c))/\x=w':=λc x=>(lM c x).mono λe w' h=>⟨h.1,h.2.symm⟩;go_enter Tryz.func107,Tryz.ntmps107;go_upto_block 0 with(go_at_call 178;refine(f _ _).mono ?_;rintro e w2 ⟨rfl,rfl⟩)
 go_cut [] (λwx=>w.grownBy wx (some C)/\dN wx C s (k+bU (s.toList.drop k)) v)
 case first=>
  go_wp2_with fail
  go_loopg [5] (s.size- (k+1)) (λgk _ wr=>∃a:Nat,gk=s.size- a/\a<=s.size/\k<a/\Hid (k+bU (s.toList.drop k)=a+(if q then oO (s.toList.drop a)else ql (s.toList.drop a)))/\w.grownBy wr (some C)/\dN wr C s a v)
  case atStart=>exact⟨k+1,rfl,by omega,by omega,W,eu _ _ _ _,h.inc⟩
  case round=>
   clear O H P f1 f2 W h;obtain⟨a,Z,a3,a5,i,B,l⟩:=hrel;subst Z;obtain⟨⟨O,H,P⟩,f1,f2⟩:=eX l;by_cases J:a<s.size
   ·have j:((s[a].toNat:Int)==39)=(s[a]==39):=kN s[a] 39 (by omega);have A:=MN s a J;have z:=MM s a J
    cases q with
    |true=>
     cases b:(s[a]==39)with
     |true=>
      rw[b]at j A;have o:Hid (k+bU (s.toList.drop k)=a+1):=by rw[Hid,i.out,if_pos rfl,A];rfl
      clear i A z b
      go_wp2_with fail
      go_region;all_goals(try go_wp2_with fail)
      go_region;all_goals(try go_wp2_with(first|(go_at_call 178;refine(f _ _).mono ?_;rintro e w2 ⟨rfl,rfl⟩)|(go_at_call 177;refine(m _ _).mono ?_;rintro e w2 ⟨rfl,rfl⟩)))
      go_meet
      case rel=>
       rw[o.out];constructor
       ·exact dB (dB (aB B (eu _ _ _ _)))
       ·exact l.inc
     |false=>
      rw[b]at j A;have o:Hid (k+bU (s.toList.drop k)=(a+1)+(if true then oO (s.toList.drop (a+1))else ql (s.toList.drop (a+1)))):=by
       rw[Hid,i.out,if_pos rfl,if_pos rfl,A,if_neg Bool.false_ne_true];omega
      clear i A z b
      go_wp2_with fail
      go_region;all_goals(try go_wp2_with fail)
      go_region;all_goals(try go_wp2_with(first|(go_at_call 178;refine(f _ _).mono ?_;rintro e w2 ⟨rfl,rfl⟩)|(go_at_call 177;refine(m _ _).mono ?_;rintro e w2 ⟨rfl,rfl⟩)))
      go_roundg (s.size- (a+1))
      case measure=>omega
      case rel=>
       refine⟨a+1,rfl,by omega,by omega,o, ?_, ?_⟩
       ·exact dB (dB (aB B (eu _ _ _ _)))
       ·exact l.inc
    |false=>
     by_cases t:eF s[a].toNat=true
     ·have o:Hid (k+bU (s.toList.drop k)=a):=by rw[Hid,i.out,if_neg Bool.false_ne_true,z,jP,t];rfl
      clear i A z
      go_wp2_with fail
      go_region;all_goals(try go_wp2_with fail)
      go_region;all_goals(try go_wp2_with(first|(go_at_call 178;refine(f _ _).mono ?_;rintro e w2 ⟨rfl,rfl⟩)|(go_at_call 177;refine(m _ _).mono ?_;rintro e w2 ⟨rfl,rfl⟩)))
      go_meet
      case rel=>
       rw[o.out];constructor
       ·exact dB (dB B)
       ·exact l
     ·rw[not_eq_true]at t;by_cases g:aM s[a].toNat=true
      ·have o:Hid (k+bU (s.toList.drop k)=a):=by rw[Hid,i.out,if_neg Bool.false_ne_true,z,jP,t,g];rfl
       clear i A z
       go_wp2_with fail
       go_region;all_goals(try go_wp2_with fail)
       go_region;all_goals(try go_wp2_with(first|(go_at_call 178;refine(f _ _).mono ?_;rintro e w2 ⟨rfl,rfl⟩)|(go_at_call 177;refine(m _ _).mono ?_;rintro e w2 ⟨rfl,rfl⟩)))
       go_meet
       case rel=>
        rw[o.out];constructor
        ·exact dB (dB B)
        ·exact l
      ·rw[not_eq_true]at g
       cases b:(s[a]==39)with
       |true=>
        have o:Hid (k+bU (s.toList.drop k)=a):=by rw[Hid,i.out,if_neg Bool.false_ne_true,z,jP,t,g,b];rfl
        rw[b]at j;clear i A z b
        go_wp2_with fail
        go_region;all_goals(try go_wp2_with fail)
        go_region;all_goals(try go_wp2_with(first|(go_at_call 178;refine(f _ _).mono ?_;rintro e w2 ⟨rfl,rfl⟩)|(go_at_call 177;refine(m _ _).mono ?_;rintro e w2 ⟨rfl,rfl⟩)))
        go_meet
        case rel=>
         rw[o.out];constructor
         ·exact dB (dB B)
         ·exact l
       |false=>
        have o:Hid (k+bU (s.toList.drop k)=(a+1)+(if false then oO (s.toList.drop (a+1))else ql (s.toList.drop (a+1)))):=by
         rw[Hid,i.out,if_neg Bool.false_ne_true,if_neg Bool.false_ne_true,z,jP,t,g,b];simp;omega
        rw[b]at j;clear i A z b
        go_wp2_with fail
        go_region;all_goals(try go_wp2_with fail)
        go_region;all_goals(try go_wp2_with(first|(go_at_call 178;refine(f _ _).mono ?_;rintro e w2 ⟨rfl,rfl⟩)|(go_at_call 177;refine(m _ _).mono ?_;rintro e w2 ⟨rfl,rfl⟩)))
        go_roundg (s.size- (a+1))
        case measure=>omega
        case rel=>
         refine⟨a+1,rfl,by omega,by omega,o, ?_, ?_⟩
         ·exact dB (dB (aB B (eu _ _ _ _)))
         ·exact l.inc
   ·have o:Hid (k+bU (s.toList.drop k)=a):=by
     have:=RI s a (by omega);rw[Hid,i.out,this.1,this.2];split<;>rfl
    clear i
    go_wp2_with fail
    go_region;all_goals(try go_wp2_with fail)
    go_meet
    case rel=>
     rw[o.out];constructor
     ·exact dB B
     ·exact l
 case rest=>
  obtain⟨B,l⟩:=hcut;clear W O H P f1 f2 h;obtain⟨n,V⟩:∃n,n=bU (s.toList.drop k):=⟨_,rfl⟩;rw[<-V]at l M;have r:Hid _:=V;have T:(s.toList.drop k).drop n=s.toList.drop (k+n):=by rw[drop_drop]
  have R:Hid (s.extract k (k+n)=aa ((s.toList.drop k).take n)):=by
   rw[Hid,oq (s.extract k (k+n)),QS]
  have F:Hid (cO (s.toList.drop k)=if mD (s.toList.drop k) n then(s.toList.drop k).take n else []):=by rw[Hid,cO,<-V]
  have E:Hid (mD (s.toList.drop k) n=(decide (0<kG (s.toList.drop (k+n)))||(s.toList.drop (k+n)).isEmpty||aM ((s.toList.drop (k+n)).headD 0).toNat)):=by rw[Hid,mD,T]
  obtain⟨d,L⟩:∃d,d=k+n:=⟨_,rfl⟩;have a4:k<=d:=by omega
  have U:d<=s.size:=by omega
  rw[<-L]at l R E;have p:Hid _:=L;clear T V L M;obtain⟨⟨O,H,P⟩,f1,f2⟩:=eX l
  go_wp2_with fail
  go_region
  go_wp2_with(go_at_call 106;refine(jR s hs _ C d v l.drew U).mono ?_)
  rintro e w3 ⟨rfl,hk3,hg3,hR3⟩;have Q:w.grownBy w3 (some C):=aB (dB B) hg3;clear O H P f1 f2 B hg3 l;obtain⟨⟨O,H,P⟩,f1,f2⟩:=eX hR3;by_cases y:0<kG (s.toList.drop d)
  ·have I:Hid (cO (s.toList.drop k)=(s.toList.drop k).take n):=by
    rw[Hid,F.out,E.out,decide_eq_true y];rfl
   obtain⟨N,u⟩:∃N,N=d+kG (s.toList.drop d):=⟨_,rfl⟩;have H3:Hid _:=u;rw[<-u]at H hk3 hR3;have S:decide (0<kG (s.toList.drop d))=true:=decide_eq_true y;clear u y;by_cases K:N<s.size
   ·go_wp2_with fail
    go_quiet ((go_at_call 178;exact Calls.quiet_of_same (eH _ _)))
    go_wp2_with fail
    go_ret;exact⟨by rw[I.out,<-R.out];rfl,N,(by rw[H3.out,p.out,r.out]),hk3,gD Q _,hR3⟩
   ·have Y:decide ((N:Int)<(s.size:Int))=false:=by simp;omega
    go_wp2_with fail
    go_quiet ((go_at_call 178;exact Calls.quiet_of_same (eH _ _)))
    go_wp2_with fail
    go_ret;exact⟨by rw[I.out,<-R.out];rfl,N,(by rw[H3.out,p.out,r.out]),hk3,gD Q _,hR3⟩
  ·have G:kG (s.toList.drop d)=0:=by omega
   have S:decide (0<kG (s.toList.drop d))=false:=decide_eq_false y;have D:Hid (mD (s.toList.drop k) n=((s.toList.drop d).isEmpty||aM ((s.toList.drop d).headD 0).toNat)):=by rw[Hid,E.out,S];rfl
   have X:Hid _:=G;rw[G]at H hk3 hR3;simp only[Nat.add_zero]at H hk3 hR3;clear G y E;by_cases K:d<s.size
   ·obtain⟨r1,r2⟩:=Gn s d K;rw[r1,r2,Bool.false_or]at D;clear r1 r2
    cases g:aM s[d].toNat with
    |true=>
     have I:Hid (cO (s.toList.drop k)=(s.toList.drop k).take n):=by rw[Hid,F.out,D.out,g];rfl
     go_wp2_with fail
     go_quiet ((go_at_call 178;exact Calls.quiet_of_same (eH _ _)))
     go_wp2_with fail
     go_ret;exact⟨by rw[I.out,<-R.out];rfl,d,(by have G:=X.out;rw[p.out,r.out]at G ⊢;omega),hk3,gD Q _,hR3⟩
    |false=>
     have I:Hid (cO (s.toList.drop k)= []):=by rw[Hid,F.out,D.out,g];rfl
     go_wp2_with fail
     go_quiet ((go_at_call 178;exact Calls.quiet_of_same (eH _ _)))
     go_wp2_with fail
     go_ret;exact⟨by rw[I.out];rfl,d,(by have G:=X.out;rw[p.out,r.out]at G ⊢;omega),hk3,gD Q _,hR3⟩
   ·have I:Hid (cO (s.toList.drop k)=(s.toList.drop k).take n):=by
     have e:(s.toList.drop d).isEmpty=true:=by rw[drop_of_length_le (by rw[ah];omega)];rfl
     rw[Hid,F.out,D.out,e];rfl
    have Y:decide ((d:Int)<(s.size:Int))=false:=by simp;omega
    go_wp2_with fail
    go_quiet ((go_at_call 178;exact Calls.quiet_of_same (eH _ _)))
    go_wp2_with fail
    go_ret;exact⟨by rw[I.out,<-R.out];rfl,d,(by have G:=X.out;rw[p.out,r.out]at G ⊢;omega),hk3,gD Q _,hR3⟩
end Go.Proofs.YtdifpeaklamhnaaGreatDoor
