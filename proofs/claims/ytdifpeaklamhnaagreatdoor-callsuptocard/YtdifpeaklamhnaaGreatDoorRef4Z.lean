import Derived.BigQuiet
import Derived.Test.YtdifpeaklamhnaaGreatDoorBldZ
set_option linter.unusedVariables false
set_option linter.unusedSimpArgs false
set_option maxRecDepth 100000
set_option maxHeartbeats 0
namespace Go.Proofs.YtdifpeaklamhnaaGreatDoor
open Go.Proofs.Tryz
open Go.RowKit
open Bool (not_eq_true and_eq_true eq_false_iff)
open Below (refl drew)
open Nat (zero_le le_refl)
theorem mg(c:Int)(w:World):
  Calls prog 177 #[.int .u8 c] w λe w'=>e=.returned (.bool (eD c))/\w'=w:=by
 go_enter Tryz.func177,Tryz.ntmps177
 go_wp2
 all_goals go_ret
 all_goals(refine⟨ax ?_,rfl⟩;simp[eD, *])
theorem eG(c:Int)(w:World):
  Calls prog 178 #[.int .u8 c] w λe w'=>e=.returned (.bool (aL c))/\w'=w:=by
 go_enter Tryz.func178,Tryz.ntmps178
 go_wp2
 all_goals go_ret
 all_goals(refine⟨ax ?_,rfl⟩;simp[aL, *])
theorem mh(c:Int)(w:World):
  Calls prog 191 #[.int .u8 c] w λe w'=>e=.returned (.bool (bP c))/\w'=w:=by
 go_enter Tryz.func191,Tryz.ntmps191
 go_wp2
 all_goals go_ret
 all_goals(refine⟨ax ?_,rfl⟩;simp[bP]<;>omega)
theorem kY(c:Int)(w:World):
  Calls prog 190 #[.int .u8 c] w λe w'=>e=.returned (.bool (eQ c))/\w'=w:=by
 go_enter Tryz.func190,Tryz.ntmps190
 go_wp2
 all_goals go_ret
 all_goals(refine⟨ax ?_,rfl⟩;simp[eQ]<;>omega)
theorem iN(s:ByteArray)(w:World)(x:s.size<=maxLen):
  Calls prog 182 #[.string s] w λe w'=>e=.returned (.bool (cz s.toList))/\w'=w:=by
 unfold maxLen at x;by_cases j:2<=s.size/\s.size<=32
 ·obtain⟨j,l⟩:=j;have a:=BB s j l;replace a:Hid _:=a;by_cases d:(s[0].toNat:Int)=39/\(s[s.size- 1].toNat:Int)=39
  ·obtain⟨d,g⟩:=d;go_enter Tryz.func182,Tryz.ntmps182
   go_wp2_with fail
   go_loop [3] (λi=>∃k:Nat,1<=k/\k<=s.size- 1/\i=.int .i64 k/\Hid (((s.toList.take (s.size- 1)).drop 1).all qQ=((s.toList.take (s.size- 1)).drop k).all qQ)) (λi=>s.size- (intOf i).toNat)
   case atStart=>exact⟨1,by omega,by omega,rfl,rfl⟩
   case round=>
    obtain⟨k,u,z,rfl,f⟩:=hrel;by_cases m:k<s.size- 1
    ·have v:k<s.size:=by omega
     have c:=FY s k m;replace c:Hid _:=c;have b:=Kj s[k];replace b:Hid _:=b;by_cases o:(s[k].toNat:Int)<32
     ·go_wp2_with fail
      go_ret;exact⟨ax (by rw[a.out,f.out,c.out,b.out];simp[o]),rfl⟩
     ·by_cases hb:(126:Int)<s[k].toNat
      ·go_wp2_with fail
       go_ret;exact⟨ax (by rw[a.out,f.out,c.out,b.out];simp[hb]),rfl⟩
      ·by_cases p:(s[k].toNat:Int)=39
       ·go_wp2_with fail
        go_ret;exact⟨ax (by rw[a.out,f.out,c.out,b.out];simp[p]),rfl⟩
       ·have q:Hid (qQ s[k]=true):=by rw[Hid,b.out];simp[o,hb,p]
        go_wp2_with fail
        go_round
        case rel=>exact⟨k+1,by omega,by omega,by go_num,by rw[Hid,f.out,c.out,q.out];rfl⟩
        case measure=>simp[intOf];omega
    ·have r:Hid (((s.toList.take (s.size- 1)).drop k).all qQ=true):=Kk s k (by omega)
     go_wp2_with fail
     go_ret;exact⟨ax (by rw[a.out,f.out,r.out,d,g];simp),rfl⟩
  ·by_cases g:(s[0].toNat:Int)=39
   ·have n:Hid (¬(s[s.size- 1].toNat:Int)=39):=λh=>d ⟨g,h⟩;have t:((s[s.size- 1].toNat:Int) != 39)=true:=by rw[Co,decide_eq_false n.out];rfl
    clear d;go_enter Tryz.func182,Tryz.ntmps182
    go_wp2_with fail
    go_ret;exact⟨ax (by rw[a.out,decide_eq_false n.out];simp),rfl⟩
   ·clear d;go_enter Tryz.func182,Tryz.ntmps182
    go_wp2_with fail
    go_ret;exact⟨ax (by rw[a.out];simp[g]),rfl⟩
 ·have a:Hid (cz s.toList=false):=by
   simp only[Hid,cz,ai];simp;omega
  by_cases t:s.size<2
  ·go_enter Tryz.func182,Tryz.ntmps182
   go_wp2_with fail
   go_ret;exact⟨ax a.out.symm,rfl⟩
  ·have y:32<s.size:=by omega
   go_enter Tryz.func182,Tryz.ntmps182
   go_wp2_with fail
   go_ret;exact⟨ax a.out.symm,rfl⟩
theorem dw(s:ByteArray)(w:World):
  Calls prog 113 #[.string s] w λe w'=>e=.returned (.bool (jh s.toList))/\w'=w:=by
 go_enter Tryz.func113,Tryz.ntmps113
 go_wp2
 all_goals go_ret
 all_goals(refine⟨ax ?_,rfl⟩;simp_all[jh])
def jS(l:Bs):Int:=if iC l then(l.getD 1 0).toNat- 49 else-1
theorem dZ(s:ByteArray)(w:World):
  Calls prog 183 #[.string s] w λe w'=>e=.returned (.int .i64 (jS s.toList))/\w'=w:=by
 by_cases d:s.size=2
 ·have b:Hid (iC s.toList=(decide ((s[0].toNat:Int)=36)&&bP s[1].toNat&& !decide ((s[1].toNat:Int)=48))):=Ke s d;have f:Hid (s.toList.getD 1 0=s[1]):=uy s 1 (by omega);by_cases c:(s[0].toNat:Int)=36
  ·by_cases i:(s[1].toNat:Int)<49
   ·have a:Hid (jS s.toList= -1):=by
     rw[Hid,jS,if_neg];rw[b.out];unfold bP;simp;omega
    go_enter Tryz.func183,Tryz.ntmps183
    go_wp2
    go_ret;exact⟨iO a.out.symm,rfl⟩
   ·by_cases j:(57:Int)<s[1].toNat
    ·have a:Hid (jS s.toList= -1):=by
      rw[Hid,jS,if_neg];rw[b.out];unfold bP;simp;omega
     go_enter Tryz.func183,Tryz.ntmps183
     go_wp2
     go_ret;exact⟨iO a.out.symm,rfl⟩
    ·have a:Hid (jS s.toList=(s[1].toNat:Int)- 49):=by
      rw[Hid,jS,if_pos,f.out];rw[b.out];unfold bP;simp;omega
     go_enter Tryz.func183,Tryz.ntmps183
     go_wp2
     go_ret;exact⟨iO a.out.symm,rfl⟩
  ·have a:Hid (jS s.toList= -1):=by
    rw[Hid,jS,if_neg];rw[b.out];simp[c]
   have h:((s[0].toNat:Int) != 36)=true:=by simpa using c
   clear c;go_enter Tryz.func183,Tryz.ntmps183
   go_wp2
   go_ret;exact⟨iO a.out.symm,rfl⟩
 ·have a:Hid (jS s.toList= -1):=by
   rw[Hid,jS,if_neg];unfold iC;rw[ai];simp[d]
  have g:((s.size:Int) != 2)=true:=by simp;omega
  go_enter Tryz.func183,Tryz.ntmps183
  go_wp2
  go_ret;exact⟨iO a.out.symm,rfl⟩
theorem gI(s:ByteArray)(w:World)(t:s.size<=maxLen):
  Calls prog 112 #[.string s] w λe w'=>e=.returned (.bool (aS s.toList))/\w'=w:=by
 unfold maxLen at t;go_enter Tryz.func112,Tryz.ntmps112
 go_wp2_with fail
 go_loop [3] (λi=>∃k:Nat,k<=s.size/\i=.int .i64 k/\(1<=k->eQ (s.toList.headD 0).toNat=true)/\Hid (s.toList.all Ab=(s.toList.drop k).all Ab)) (λi=>s.size- (intOf i).toNat)
 case atStart=>exact⟨0,zero_le _,rfl,λh=>by omega,rfl⟩
 case round=>
  obtain⟨k,u,rfl,f,g⟩:=hrel;have l:Hid _:=f;clear f;by_cases o:k<s.size
  ·have n:Hid ((s.toList.drop k).all Ab=(Ab s[k]&&(s.toList.drop (k+1)).all Ab)):=ug Ab s k o;have j:Hid (Ab s[k]=(eQ s[k].toNat||bP s[k].toNat)):=rfl;have p:Hid (s.toList.headD 0=s[0]):=jc s (by omega);by_cases d:eQ s[k].toNat=true
   ·have m:Hid (eQ (s.toList.headD 0).toNat=true):=by
     rw[Hid];by_cases b:k=0
     ·rw[p.out];subst b;exact d
     ·exact l.out (by omega)
    go_wp2_with(first|(go_at_call 190;refine(kY _ _).mono ?_;rintro e w' ⟨rfl,rfl⟩)|(go_at_call 191;refine(mh _ _).mono ?_;rintro e w' ⟨rfl,rfl⟩))
    go_round
    case rel=>exact⟨k+1,by omega,by go_num,λ_=>m.out,by rw[Hid,g.out,n.out,j.out,d];rfl⟩
    case measure=>simp[intOf];omega
   ·rw[not_eq_true]at d;by_cases b:k=0
    ·have a:Hid (aS s.toList=false):=by
      have e:eQ (s.toList.headD 0).toNat=false:=by rw[p.out];subst b;exact d
      rw[Hid,aS,e];simp
     subst b
     go_wp2_with(first|(go_at_call 190;refine(kY _ _).mono ?_;rintro e w' ⟨rfl,rfl⟩)|(go_at_call 191;refine(mh _ _).mono ?_;rintro e w' ⟨rfl,rfl⟩))
     go_ret;exact⟨ax a.out.symm,rfl⟩
    ·have r:((k:Int)==0)=false:=by simp;omega
     by_cases c:bP s[k].toNat=true
     ·have m:Hid (eQ (s.toList.headD 0).toNat=true):=l.out (by omega)
      go_wp2_with(first|(go_at_call 190;refine(kY _ _).mono ?_;rintro e w' ⟨rfl,rfl⟩)|(go_at_call 191;refine(mh _ _).mono ?_;rintro e w' ⟨rfl,rfl⟩))
      go_round
      case rel=>exact⟨k+1,by omega,by go_num,λ_=>m.out,by rw[Hid,g.out,n.out,j.out,d,c];rfl⟩
      case measure=>simp[intOf];omega
     ·rw[not_eq_true]at c;have a:Hid (aS s.toList=false):=by
       rw[Hid,aS,g.out,n.out,j.out,d,c];simp
      go_wp2_with(first|(go_at_call 190;refine(kY _ _).mono ?_;rintro e w' ⟨rfl,rfl⟩)|(go_at_call 191;refine(mh _ _).mono ?_;rintro e w' ⟨rfl,rfl⟩))
      go_ret;exact⟨ax a.out.symm,rfl⟩
  ·by_cases b:s.size=0
   ·have q:=rA s b;have a:Hid (aS s.toList=false):=by rw[Hid,aS,ai];simp[b]
    go_wp2_with fail
    go_ret;exact⟨ax a.out.symm,rfl⟩
   ·have q:=oN s (by omega);have a:Hid (aS s.toList=decide ((s.size:Int)<=12)):=by
     rw[Hid,aS,l.out (by omega),g.out,xW Ab s k (by omega),ai];rw[Bool.eq_iff_iff];simp;omega
    go_wp2_with fail
    go_ret;exact⟨ax a.out.symm,rfl⟩
def jI:Bs->Int->Int
 | [],n=>n
 |c::r,n=>jI r (n*10+(c.toNat- 48))
def oP(l:Bs):Int:=if dQ l then(if l.headD 0==45 then-(jI (l.drop 1) 0)else jI l 0)else 0
def qx:Bs->Int->Bool
 | [],_=>true
 |c::r,n=>(decide (49<=(c.toNat:Int))&&decide ((c.toNat:Int)<=57)||(decide ((c.toNat:Int)=48)&&decide (0<n)))&&decide (n*10+(c.toNat- 48)<=1000000000)&&qx r (n*10+(c.toNat- 48))
theorem Pe(l:Bs):∀n:Int,0<n->qx l n=bN l n:=by
 induction l with
 |nil=>intro n _;rfl
 |cons c r ih=>
  intro n b;rw[qx,bN];have e:(decide (49<=(c.toNat:Int))&&decide ((c.toNat:Int)<=57)||(decide ((c.toNat:Int)=48)&&decide (0<n)))=bP c.toNat:=by
   unfold bP;rw[Bool.eq_iff_iff];simp;omega
  rw[e];by_cases a:bP c.toNat=true
  ·have:=kG a;rw[ih _ (by omega)]
  ·rw[not_eq_true]at a;rw[a];rfl
theorem Mk(l:Bs):qx l 0=(l.isEmpty||(!(l.headD 0==48)&&bN l 0)):=by
 cases l with
 |nil=>rfl
 |cons c r=>
  rw[qx,bN,List.headD_cons];have a:(c==48)=decide ((c.toNat:Int)=48):=qX c 48 (by omega);rw[a];by_cases h:(c.toNat:Int)=48
  ·simp[h]
  ·have e:(decide (49<=(c.toNat:Int))&&decide ((c.toNat:Int)<=57)||(decide ((c.toNat:Int)=48)&&decide ((0:Int)<0)))=bP c.toNat:=by
    unfold bP;rw[Bool.eq_iff_iff];simp;omega
   rw[e];by_cases b:bP c.toNat=true
   ·have:=kG b;rw[Pe _ _ (by omega)];simp[h]
   ·rw[not_eq_true]at b;rw[b];simp
theorem QQ(l:Bs):∀n:Int,0<=n->n<=1000000000->bN l n=true->0<=jI l n/\jI l n<=1000000000:=by
 induction l with
 |nil=>intro n a b _;exact⟨a,b⟩
 |cons c r ih=>
  intro n a b h;rw[bN,and_eq_true,and_eq_true]at h;have d:=kG h.1.1;have hb:n*10+(c.toNat- 48)<=1000000000:=by simpa using h.1.2
  rw[jI];exact ih _ (by omega) hb h.2
theorem vO(s:ByteArray)(k:Nat)(n:Int)(h:k<s.size):qx (s.toList.drop k) n=
  ((decide (49<=(s[k].toNat:Int))&&decide ((s[k].toNat:Int)<=57)||(decide ((s[k].toNat:Int)=48)&&decide (0<n)))&&decide (n*10+(s[k].toNat- 48)<=1000000000)&&qx (s.toList.drop (k+1)) (n*10+(s[k].toNat- 48))):=by
 rw[drop_cons s k h,qx]
theorem vD(s:ByteArray)(k:Nat)(n:Int)(h:k<s.size):jI (s.toList.drop k) n=jI (s.toList.drop (k+1)) (n*10+(s[k].toNat- 48)):=by
 rw[drop_cons s k h,jI]
theorem FK(s:ByteArray)(k:Nat)(n:Int)(h:s.size<=k):qx (s.toList.drop k) n=true/\jI (s.toList.drop k) n=n:=by
 rw[List.drop_of_length_le (by rw[ai];exact h)];exact⟨rfl,rfl⟩
theorem bQ{l:Bs}(h:dQ l=false):oP l=0:=by rw[oP,h];rfl
theorem gp{a b:Int}{c d:Bool}(e:a=b)(f:c=d):Ending.returned (.tuple #[.int .i64 a,.bool c])=.returned (.tuple #[.int .i64 b,.bool d]):=by rw[e,f]
theorem Bp(l:Bs)(a:(l== [48])=false):dQ l=(decide (0<(aU l).length)&&qx (aU l) 0):=by
 rw[dQ,a,Bool.false_or,Mk]
 cases b:aU l with
 |nil=>rfl
 |cons c r=>simp
theorem fA(s:ByteArray)(w:World)(Y:s.size<=maxLen):
  Calls prog 180 #[.string s] w λe w'=>e=.returned (.tuple #[.int .i64 (oP s.toList),.bool (dQ s.toList)])/\w'=w:=by
 unfold maxLen at Y;by_cases J:(s.toList== [48])=true
 ·have v:Hid (dQ s.toList=true):=by rw[Hid,dQ,J];rfl
  have E:Hid (oP s.toList=0):=by
   have:s.toList= [48]:=by simpa using J
   rw[Hid,this];rfl
  go_enter Tryz.func180,Tryz.ntmps180
  go_wp2_with fail
  go_ret2;exact⟨by rw[v.out,E.out];rfl,rfl⟩
 ·rw[not_eq_true]at J;have r:=Bp s.toList J;replace r:Hid _:=r;by_cases Z:s.size=0
  ·have S:=rA s Z;have N:s.toList= []:=List.isEmpty_iff.mp S;have v:Hid (dQ s.toList=false):=by rw[Hid,N];rfl
   have E:Hid (oP s.toList=0):=by rw[Hid,N];rfl
   clear N;go_enter Tryz.func180,Tryz.ntmps180
   go_wp2_with fail
   go_loop [4,5,6] (λn b i=>n=.int .i64 0/\b=.int .i64 1/\i=.int .i64 0) (λ_ _ _=>0)
   case atStart=>exact⟨rfl,rfl,rfl⟩
   case round=>
    obtain⟨rfl,rfl,rfl⟩:=hrel
    go_wp2_with fail
    go_ret2;exact⟨by rw[v.out,E.out];rfl,rfl⟩
  ·have z:0<s.size:=by omega
   have S:=oN s z;have G:Hid ((s.toList.headD 0==45)=decide ((s[0].toNat:Int)=45)):=by rw[Hid,jc s z];exact qX _ 45 (by omega)
   by_cases p:(s[0].toNat:Int)=45
   ·have B:Hid (aU s.toList=s.toList.drop 1):=by rw[Hid,aU,G.out,decide_eq_true p];rfl
    by_cases U:s.size=1
    ·have c:Hid (dQ s.toList=false):=by
      rw[Hid,r.out,B.out,List.length_drop,ai,U];rfl
     go_enter Tryz.func180,Tryz.ntmps180
     go_wp2_with fail
     go_loop [4,5,6] (λn b i=>n=.int .i64 0/\b=.int .i64 1/\i=.int .i64 0) (λ_ _ _=>0)
     case atStart=>exact⟨rfl,rfl,rfl⟩
     case round=>
      obtain⟨rfl,rfl,rfl⟩:=hrel
      go_wp2_with fail
      go_ret2;exact⟨gp (bQ c.out).symm c.out.symm,rfl⟩
    ·have V:1<s.size:=by omega
     have x:Hid (dQ s.toList=qx (s.toList.drop 1) 0):=by
      rw[Hid,r.out,B.out,List.length_drop,ai,decide_eq_true (by omega)];rfl
     have y:Hid (jI (aU s.toList) 0=jI (s.toList.drop 1) 0):=by rw[Hid,B.out]
     have E:Hid (dQ s.toList=true->oP s.toList= -(jI (aU s.toList) 0)):=by
      intro h;rw[oP,h,if_pos rfl,G.out,decide_eq_true p,if_pos rfl,B.out]
     clear B G r;go_enter Tryz.func180,Tryz.ntmps180
     go_wp2_with fail
     go_loop [4,5,6] (λR L Q=>∃(k:Nat) (n b:Int),k<=s.size/\R=.int .i64 n/\L=.int .i64 b/\Q=.int .i64 k/\0<=n/\n<=1000000000/\((k=0/\n=0/\b=1)\/(1<=k/\b= -1/\Hid (dQ s.toList=qx (s.toList.drop k) n)/\Hid (jI (aU s.toList) 0=jI (s.toList.drop k) n)))) (λ_ _ i=>s.size- (intOf i).toNat)
     case atStart=>exact⟨0,0,1,zero_le _,rfl,rfl,rfl,by omega,by omega,.inl ⟨rfl,rfl,rfl⟩⟩
     case round=>
      obtain⟨k,n,b,W,rfl,rfl,rfl,O,P,F⟩:=hrel;rcases F with⟨rfl,rfl,rfl⟩|⟨X,rfl,j,q⟩
      ·go_wp2_with fail
       go_round
       case rel=>exact⟨1,0, -1,by omega,rfl,rfl,rfl,by omega,by omega,.inr ⟨by omega,rfl,x,y⟩⟩
       case measure=>simp[intOf];omega
      ·clear x y;have M:((k:Int)==0)=false:=by simp;omega
       by_cases t:k<s.size
       ·clear p;have f:=vO s k n t;replace f:Hid _:=f;have d:=vD s k n t;replace d:Hid _:=d;by_cases C:(s[k].toNat:Int)=45
        ·have c:Hid (dQ s.toList=false):=by rw[Hid,j.out,f.out,C];simp
         go_wp2_with fail
         go_ret2;exact⟨gp (bQ c.out).symm c.out.symm,rfl⟩
        ·by_cases a:(49<=(s[k].toNat:Int)/\(s[k].toNat:Int)<=57)\/((s[k].toNat:Int)=48/\0<n)
         ·have o:Hid ((decide (49<=(s[k].toNat:Int))&&decide ((s[k].toNat:Int)<=57)||(decide ((s[k].toNat:Int)=48)&&decide (0<n)))=true):=by rw[Hid];simpa using a
          have H:48<=(s[k].toNat:Int)/\(s[k].toNat:Int)<=57:=by omega
          by_cases g:10*n+(s[k].toNat- 48)<=1000000000
          ·have v:Hid (dQ s.toList=qx (s.toList.drop (k+1)) (10*n+(s[k].toNat- 48))):=by
            rw[Hid,j.out,f.out,o.out,show n*10=10*n by omega,decide_eq_true g];rfl
           have m:Hid (jI (aU s.toList) 0=jI (s.toList.drop (k+1)) (10*n+(s[k].toNat- 48))):=by
            rw[Hid,q.out,d.out,show n*10=10*n by omega]
           clear o f d j q;rcases a with⟨l,u⟩|⟨l,u⟩
           ·go_wp2_with fail
            go_round
            case rel=>exact⟨k+1,10*n+(s[k].toNat- 48), -1,by omega,(by first|rfl|(rw[l];simp)),rfl,by go_num,by omega,by omega,.inr ⟨by omega,rfl,v,m⟩⟩
            case measure=>simp[intOf];omega
           ·have A:¬49<=(s[k].toNat:Int):=by omega
            go_wp2_with fail
            go_round
            case rel=>exact⟨k+1,10*n+(s[k].toNat- 48), -1,by omega,(by first|rfl|(rw[l];simp)),rfl,by go_num,by omega,by omega,.inr ⟨by omega,rfl,v,m⟩⟩
            case measure=>simp[intOf];omega
          ·have c:Hid (dQ s.toList=false):=by rw[Hid,j.out,f.out,show n*10=10*n by omega,decide_eq_false g];simp
           clear o f d j q;rcases a with⟨l,u⟩|⟨l,u⟩
           ·go_wp2_with fail
            go_ret2;exact⟨gp (bQ c.out).symm c.out.symm,rfl⟩
           ·have A:¬49<=(s[k].toNat:Int):=by omega
            go_wp2_with fail
            go_ret2;exact⟨gp (bQ c.out).symm c.out.symm,rfl⟩
         ·have c:Hid (dQ s.toList=false):=by
           have e:(decide (49<=(s[k].toNat:Int))&&decide ((s[k].toNat:Int)<=57)||(decide ((s[k].toNat:Int)=48)&&decide (0<n)))=false:=by
            rw[eq_false_iff];intro h;exact a (by simpa using h)
           rw[Hid,j.out,f.out,e];rfl
          clear f d j q;by_cases l:49<=(s[k].toNat:Int)
          ·have u:¬(s[k].toNat:Int)<=57:=λh=>a (.inl ⟨l,h⟩);clear a
           go_wp2_with fail
           go_ret2;exact⟨gp (bQ c.out).symm c.out.symm,rfl⟩
          ·by_cases A:(s[k].toNat:Int)=48
           ·have T:¬0<n:=λh=>a (.inr ⟨A,h⟩);clear a
            go_wp2_with fail
            go_ret2;exact⟨gp (bQ c.out).symm c.out.symm,rfl⟩
           ·clear a
            go_wp2_with fail
            go_ret2;exact⟨gp (bQ c.out).symm c.out.symm,rfl⟩
       ·have D:=FK s k n (by omega);have o:Hid (dQ s.toList=true):=by rw[Hid,j.out,D.1]
        have K:Hid (oP s.toList= -n):=by rw[Hid,E.out o.out,q.out,D.2]
        clear D
        go_wp2_with fail
        go_ret2;exact⟨gp (by rw[K.out]) o.out.symm,rfl⟩
   ·have B:Hid (aU s.toList=s.toList):=by rw[Hid,aU,G.out,decide_eq_false p];rfl
    have x:Hid (dQ s.toList=qx (s.toList.drop 0) 0):=by
     rw[Hid,r.out,B.out,ai,decide_eq_true z];rfl
    have y:Hid (jI (aU s.toList) 0=jI (s.toList.drop 0) 0):=by rw[Hid,B.out];rfl
    have E:Hid (dQ s.toList=true->oP s.toList=jI (aU s.toList) 0):=by
     intro h;rw[oP,h,if_pos rfl,G.out,decide_eq_false p,if_neg Bool.false_ne_true,B.out]
    clear B G r;go_enter Tryz.func180,Tryz.ntmps180
    go_wp2_with fail
    go_loop [4,5,6] (λR L Q=>∃(k:Nat) (n:Int),k<=s.size/\R=.int .i64 n/\L=.int .i64 1/\Q=.int .i64 k/\0<=n/\n<=1000000000/\Hid (dQ s.toList=qx (s.toList.drop k) n)/\Hid (jI (aU s.toList) 0=jI (s.toList.drop k) n)) (λ_ _ i=>s.size- (intOf i).toNat)
    case atStart=>exact⟨0,0,zero_le _,rfl,rfl,rfl,by omega,by omega,x,y⟩
    case round=>
     obtain⟨k,n,W,rfl,rfl,rfl,O,P,j,q⟩:=hrel;clear x y;by_cases t:k<s.size
     ·by_cases I:k=0
      ·have C:¬(s[k].toNat:Int)=45:=by have e:=I;subst e;exact p
       clear p I;have f:=vO s k n t;replace f:Hid _:=f;have d:=vD s k n t;replace d:Hid _:=d;by_cases a:(49<=(s[k].toNat:Int)/\(s[k].toNat:Int)<=57)\/((s[k].toNat:Int)=48/\0<n)
       ·have o:Hid ((decide (49<=(s[k].toNat:Int))&&decide ((s[k].toNat:Int)<=57)||(decide ((s[k].toNat:Int)=48)&&decide (0<n)))=true):=by rw[Hid];simpa using a
        have H:48<=(s[k].toNat:Int)/\(s[k].toNat:Int)<=57:=by omega
        by_cases g:10*n+(s[k].toNat- 48)<=1000000000
        ·have v:Hid (dQ s.toList=qx (s.toList.drop (k+1)) (10*n+(s[k].toNat- 48))):=by
          rw[Hid,j.out,f.out,o.out,show n*10=10*n by omega,decide_eq_true g];rfl
         have m:Hid (jI (aU s.toList) 0=jI (s.toList.drop (k+1)) (10*n+(s[k].toNat- 48))):=by
          rw[Hid,q.out,d.out,show n*10=10*n by omega]
         clear o f d j q;rcases a with⟨l,u⟩|⟨l,u⟩
         ·go_wp2_with fail
          go_round
          case rel=>exact⟨k+1,10*n+(s[k].toNat- 48),by omega,(by first|rfl|(rw[l];simp)),rfl,by go_num,by omega,by omega,v,m⟩
          case measure=>simp[intOf];omega
         ·have A:¬49<=(s[k].toNat:Int):=by omega
          go_wp2_with fail
          go_round
          case rel=>exact⟨k+1,10*n+(s[k].toNat- 48),by omega,(by first|rfl|(rw[l];simp)),rfl,by go_num,by omega,by omega,v,m⟩
          case measure=>simp[intOf];omega
        ·have c:Hid (dQ s.toList=false):=by rw[Hid,j.out,f.out,show n*10=10*n by omega,decide_eq_false g];simp
         clear o f d j q;rcases a with⟨l,u⟩|⟨l,u⟩
         ·go_wp2_with fail
          go_ret2;exact⟨gp (bQ c.out).symm c.out.symm,rfl⟩
         ·have A:¬49<=(s[k].toNat:Int):=by omega
          go_wp2_with fail
          go_ret2;exact⟨gp (bQ c.out).symm c.out.symm,rfl⟩
       ·have c:Hid (dQ s.toList=false):=by
         have e:(decide (49<=(s[k].toNat:Int))&&decide ((s[k].toNat:Int)<=57)||(decide ((s[k].toNat:Int)=48)&&decide (0<n)))=false:=by
          rw[eq_false_iff];intro h;exact a (by simpa using h)
         rw[Hid,j.out,f.out,e];rfl
        clear f d j q;by_cases l:49<=(s[k].toNat:Int)
        ·have u:¬(s[k].toNat:Int)<=57:=λh=>a (.inl ⟨l,h⟩);clear a
         go_wp2_with fail
         go_ret2;exact⟨gp (bQ c.out).symm c.out.symm,rfl⟩
        ·by_cases A:(s[k].toNat:Int)=48
         ·have T:¬0<n:=λh=>a (.inr ⟨A,h⟩);clear a
          go_wp2_with fail
          go_ret2;exact⟨gp (bQ c.out).symm c.out.symm,rfl⟩
         ·clear a
          go_wp2_with fail
          go_ret2;exact⟨gp (bQ c.out).symm c.out.symm,rfl⟩
      ·have M:((k:Int)==0)=false:=by simp;omega
       clear p;have f:=vO s k n t;replace f:Hid _:=f;have d:=vD s k n t;replace d:Hid _:=d;by_cases C:(s[k].toNat:Int)=45
       ·have c:Hid (dQ s.toList=false):=by rw[Hid,j.out,f.out,C];simp
        go_wp2_with fail
        go_ret2;exact⟨gp (bQ c.out).symm c.out.symm,rfl⟩
       ·by_cases a:(49<=(s[k].toNat:Int)/\(s[k].toNat:Int)<=57)\/((s[k].toNat:Int)=48/\0<n)
        ·have o:Hid ((decide (49<=(s[k].toNat:Int))&&decide ((s[k].toNat:Int)<=57)||(decide ((s[k].toNat:Int)=48)&&decide (0<n)))=true):=by rw[Hid];simpa using a
         have H:48<=(s[k].toNat:Int)/\(s[k].toNat:Int)<=57:=by omega
         by_cases g:10*n+(s[k].toNat- 48)<=1000000000
         ·have v:Hid (dQ s.toList=qx (s.toList.drop (k+1)) (10*n+(s[k].toNat- 48))):=by
           rw[Hid,j.out,f.out,o.out,show n*10=10*n by omega,decide_eq_true g];rfl
          have m:Hid (jI (aU s.toList) 0=jI (s.toList.drop (k+1)) (10*n+(s[k].toNat- 48))):=by
           rw[Hid,q.out,d.out,show n*10=10*n by omega]
          clear o f d j q;rcases a with⟨l,u⟩|⟨l,u⟩
          ·go_wp2_with fail
           go_round
           case rel=>exact⟨k+1,10*n+(s[k].toNat- 48),by omega,(by first|rfl|(rw[l];simp)),rfl,by go_num,by omega,by omega,v,m⟩
           case measure=>simp[intOf];omega
          ·have A:¬49<=(s[k].toNat:Int):=by omega
           go_wp2_with fail
           go_round
           case rel=>exact⟨k+1,10*n+(s[k].toNat- 48),by omega,(by first|rfl|(rw[l];simp)),rfl,by go_num,by omega,by omega,v,m⟩
           case measure=>simp[intOf];omega
         ·have c:Hid (dQ s.toList=false):=by rw[Hid,j.out,f.out,show n*10=10*n by omega,decide_eq_false g];simp
          clear o f d j q;rcases a with⟨l,u⟩|⟨l,u⟩
          ·go_wp2_with fail
           go_ret2;exact⟨gp (bQ c.out).symm c.out.symm,rfl⟩
          ·have A:¬49<=(s[k].toNat:Int):=by omega
           go_wp2_with fail
           go_ret2;exact⟨gp (bQ c.out).symm c.out.symm,rfl⟩
        ·have c:Hid (dQ s.toList=false):=by
          have e:(decide (49<=(s[k].toNat:Int))&&decide ((s[k].toNat:Int)<=57)||(decide ((s[k].toNat:Int)=48)&&decide (0<n)))=false:=by
           rw[eq_false_iff];intro h;exact a (by simpa using h)
          rw[Hid,j.out,f.out,e];rfl
         clear f d j q;by_cases l:49<=(s[k].toNat:Int)
         ·have u:¬(s[k].toNat:Int)<=57:=λh=>a (.inl ⟨l,h⟩);clear a
          go_wp2_with fail
          go_ret2;exact⟨gp (bQ c.out).symm c.out.symm,rfl⟩
         ·by_cases A:(s[k].toNat:Int)=48
          ·have T:¬0<n:=λh=>a (.inr ⟨A,h⟩);clear a
           go_wp2_with fail
           go_ret2;exact⟨gp (bQ c.out).symm c.out.symm,rfl⟩
          ·clear a
           go_wp2_with fail
           go_ret2;exact⟨gp (bQ c.out).symm c.out.symm,rfl⟩
     ·have D:=FK s k n (by omega);have o:Hid (dQ s.toList=true):=by rw[Hid,j.out,D.1]
      have K:Hid (oP s.toList=n):=by rw[Hid,E.out o.out,q.out,D.2]
      clear D
      go_wp2_with fail
      go_ret2;exact⟨gp (by rw[K.out]) o.out.symm,rfl⟩
theorem kZ(c:UInt8)(n:Nat)(a:n<256):((c.toNat:Int)==(n:Int))=(c==UInt8.ofNat n):=by
 rw[qX c n a,Bool.eq_iff_iff];simp
theorem NE{l a b:Bs}(h:l=a++b):l[a.length]? =b[0]? :=by
 subst h;rw[List.getElem?_append_right (le_refl _)];simp
def wL(l:Bs):Nat:=(l.takeWhile (· != 46)).length
theorem zU(l:Bs):l=l.takeWhile (· != 46)++l.dropWhile (· != 46):=(List.takeWhile_append_dropWhile).symm
theorem TN(s:ByteArray)(k:Nat)(h:k<wL s.toList)(b:k<s.size):((s[k].toNat:Int)==46)=false:=by
 have f:s.toList[k]'(by rw[ai];exact b)=s[k]:=dM s k b;have e:=zU s.toList;have c:s.toList[k]? =(s.toList.takeWhile (· != 46))[k]? :=by
  conv=>lhs;rw[e]
  rw[List.getElem?_append_left h]
 rw[List.getElem?_eq_getElem (by rw[ai];exact b),f,List.getElem?_eq_getElem h]at c;have g:=List.getElem_mem h;have d:((s.toList.takeWhile (· != 46))[k] != 46)=true:=by
  have:=List.all_takeWhile (l:=s.toList) (p:=(· != 46));rw[List.all_eq_true]at this;exact this _ g
 rw[<-Option.some.inj c]at d;have a:(s[k]==46)=false:=by simpa using d
 rw[<-a];exact kZ s[k] 46 (by omega)
theorem Og(s:ByteArray)(h:wL s.toList<s.size):((s[wL s.toList].toNat:Int)==46)=true:=by
 have e:=zU s.toList;have b:s.toList.length=wL s.toList+(s.toList.dropWhile (· != 46)).length:=by
  have:=congrArg List.length e;rwa[List.length_append]at this
 rw[ai]at b
 cases a:s.toList.dropWhile (· != 46)with
 |nil=>rw[a]at b;simp at b;omega
 |cons c r=>
  have g:(c != 46)=false:=by
   have:=List.head?_dropWhile_not (p:=(· != 46)) s.toList;rw[a]at this;simpa using this
  have d:s.toList[wL s.toList]? =some c:=by
   have:=NE e;rw[a]at this;exact this
  rw[List.getElem?_eq_getElem (by rw[ai];exact h),dM s _ h]at d;have f:=Option.some.inj d;rw[f];have:c=46:=by simpa using g
  rw[this];rfl
theorem Cz(s:ByteArray):s.toList.contains 46=decide (wL s.toList<s.size):=by
 cases d:s.toList.contains 46 with
 |true=>have:=(pV s.toList 46 d).2.1;rw[ai]at this;symm;exact decide_eq_true this
 |false=>
  symm;rw[decide_eq_false_iff_not];intro h;have:=Og s h;have b:s.toList.contains 46=true:=by
   rw[List.contains_iff_mem];have e:=dM s _ h;have a:s[wL s.toList]=46:=by
    have c:=this;rw[show((46:Int))=((46:Nat):Int)from rfl]at c;apply UInt8.toNat_inj.mp;simp at c ⊢;omega
   rw[<-a,<-e];exact List.getElem_mem _
  rw[d]at b;cases b
theorem jg(s:ByteArray)(w:World)(J:s.size<=maxLen):
  Calls prog 181 #[.string s] w λe w'=>Below w.heap.size w w'/\∃x y:ByteArray,e=.returned (.tuple #[.string x,.string y,.bool (jO s.toList)])/\
   (jO s.toList=true->x.toList=s.toList.takeWhile (· != 46)/\y.toList=(s.toList.dropWhile (· != 46)).drop 1):=by
 have N:=J;unfold maxLen at J;obtain⟨d,m⟩:∃d,d=wL s.toList:=⟨_,rfl⟩;have l:∀k,k<d->∀o:k<s.size,((s[k].toNat:Int)==46)=false:=λk h o=>TN s k (by omega) o;have u:∀o:d<s.size,((s[d].toNat:Int)==46)=true:=by subst m;exact λo=>Og s o
 have b:s.toList.contains 46=decide (d<s.size):=by rw[m];exact Cz s
 have j:d<s.size->jO s.toList=(aS (s.toList.take d)&&aS (s.toList.drop (d+1))):=by
  intro h;have r:=pV s.toList 46 (by rw[b];simpa using h);have L:s.toList.take d=s.toList.takeWhile (· != 46):=by rw[m];exact r.2.2.1
  have M:s.toList.drop (d+1)=(s.toList.dropWhile (· != 46)).drop 1:=by rw[<-r.2.2.2,List.drop_drop];congr 1;rw[m];rfl
  rw[jO,b,decide_eq_true h,L,M];rfl
 have c:d<s.size->s.toList.take d=s.toList.takeWhile (· != 46)/\s.toList.drop (d+1)=(s.toList.dropWhile (· != 46)).drop 1:=by
  intro h;have r:=pV s.toList 46 (by rw[b];simpa using h);exact⟨by rw[m];exact r.2.2.1,by rw[<-r.2.2.2,List.drop_drop];congr 1;rw[m];rfl⟩
 have C:Hid _:=l;have D:Hid _:=u;have E:Hid _:=b;have F:Hid _:=j;have G:Hid _:=c;clear m l u b j c;go_enter Tryz.func181,Tryz.ntmps181
 go_wp2_with fail
 go_loop [5,6] (λK O=>∃(k:Nat) (a:Int),k<=s.size/\O=.int .i64 k/\K=.int .i64 a/\((a= -1/\k<=d)\/(a=d/\d<k))) (λ_ i=>s.size- (intOf i).toNat)
 case atStart=>exact⟨0, -1,zero_le _,rfl,rfl,.inl ⟨rfl,zero_le _⟩⟩
 case round=>
  obtain⟨k,a,o,rfl,rfl,f⟩:=hrel;by_cases B:k<s.size
  ·rcases f with⟨rfl,n⟩|⟨rfl,n⟩
   ·by_cases A:k<d
    ·have t:=C.out k A B
     go_wp2_with fail
     go_round
     case rel=>exact⟨k+1, -1,by omega,by go_num,rfl,.inl ⟨rfl,by omega⟩⟩
     case measure=>simp[intOf];omega
    ·have g:k=d:=by omega
     have t:((s[k].toNat:Int)==46)=true:=by subst g;exact D.out B
     have I:Hid (k=d):=g;clear g
     go_wp2_with fail
     go_round
     case rel=>exact⟨k+1,k,by omega,by go_num,rfl,.inr ⟨by rw[I.out],by rw[I.out];omega⟩⟩
     case measure=>simp[intOf];omega
   ·cases t:((s[k].toNat:Int)==46)with
    |true=>
     go_wp2_with fail
     go_round
     case rel=>exact⟨k+1,d,by omega,by go_num,rfl,.inr ⟨rfl,by omega⟩⟩
     case measure=>simp[intOf];omega
    |false=>
     go_wp2_with fail
     go_round
     case rel=>exact⟨k+1,d,by omega,by go_num,rfl,.inr ⟨rfl,by omega⟩⟩
     case measure=>simp[intOf];omega
  ·rcases f with⟨rfl,n⟩|⟨rfl,n⟩
   ·have H:Hid (jO s.toList=false):=by
     rw[Hid,jO,E.out,decide_eq_false (by omega)];rfl
    go_wp2_with fail
    go_ret3;exact⟨refl _ _,⟨#[]⟩,⟨#[]⟩,by rw[H.out];rfl,λh=>by rw[H.out]at h;cases h⟩
   ·have z:d<s.size:=by omega
    have p:=F.out z;replace p:Hid _:=p;have q:=G.out z;replace q:Hid _:=q;have P:(s.extract 0 d).size<=maxLen:=by unfold maxLen;simp;omega
    have z2:(s.extract (d+1) s.size).size<=maxLen:=by unfold maxLen;simp;omega
    rw[<-uu,<-qH]at p q;clear C D E F G
    cases v:aS (s.extract 0 d).toList with
    |true=>
     go_wp2_with(go_at_call 112;refine(gI _ _ (by assumption)).mono ?_;rintro e w2 ⟨rfl,rfl⟩)
     go_region;all_goals(try go_wp2)
     all_goals go_ret3
     exact⟨drew (refl _ _),_,_,by rw[p.out,v];rfl,λ_=>q.out⟩
    |false=>
     go_wp2_with(go_at_call 112;refine(gI _ _ (by assumption)).mono ?_;rintro e w2 ⟨rfl,rfl⟩)
     go_region;all_goals(try go_wp2)
     all_goals go_ret3
     exact⟨drew (refl _ _),_,_,by rw[p.out,v];rfl,λ_=>q.out⟩
def fU(l:Bs):Bool:=dQ l||jO l||cz l||jh l||iC l
theorem FR(l:Bs):decide (0<=jS l)=iC l:=by
 unfold jS
 cases h:iC l with
 |false=>rfl
 |true=>
  unfold iC at h;simp only[and_eq_true]at h;have b:=kG h.1.2;have a:¬(l.getD 1 0).toNat=48:=by
   intro e;have:l.getD 1 0=48:=UInt8.toNat_inj.mp e;rw[this]at h;simp at h
  rw[if_pos rfl];exact decide_eq_true (by omega)
theorem wY(s:ByteArray)(w:World)(b:s.size<=maxLen):
  Calls prog 109 #[.string s] w λe w'=>e=.returned (.bool (fU s.toList))/\Below w.heap.size w w':=by
 have m:Hid _:=FR s.toList;have c:Hid (fU s.toList=(dQ s.toList||jO s.toList||cz s.toList||jh s.toList||iC s.toList)):=rfl
 cases d:dQ s.toList with
 |true=>
  go_enter Tryz.func109,Tryz.ntmps109
  go_wp2_with(go_at_call 180;refine(fA _ _ b).mono ?_;rintro e w2 ⟨rfl,rfl⟩)
  refine(jg _ _ b).mono ?_;rintro e g ⟨a,x,y,rfl,_⟩
  go_wp2_with(first|(go_at_call 182;refine(iN _ _ b).mono ?_;rintro e h ⟨rfl,rfl⟩)|(go_at_call 113;refine(dw _ _).mono ?_;rintro e i ⟨rfl,rfl⟩)|(go_at_call 183;refine(dZ _ _).mono ?_;rintro e j ⟨rfl,rfl⟩))
  go_ret;exact⟨ax (by rw[c.out,d];rfl),a⟩
 |false=>
  cases f:jO s.toList with
  |true=>
   go_enter Tryz.func109,Tryz.ntmps109
   go_wp2_with(go_at_call 180;refine(fA _ _ b).mono ?_;rintro e w2 ⟨rfl,rfl⟩)
   refine(jg _ _ b).mono ?_;rintro e g ⟨a,x,y,rfl,_⟩
   go_wp2_with(first|(go_at_call 182;refine(iN _ _ b).mono ?_;rintro e h ⟨rfl,rfl⟩)|(go_at_call 113;refine(dw _ _).mono ?_;rintro e i ⟨rfl,rfl⟩)|(go_at_call 183;refine(dZ _ _).mono ?_;rintro e j ⟨rfl,rfl⟩))
   go_ret;exact⟨ax (by rw[c.out,d,f];rfl),a⟩
  |false=>
   cases k:cz s.toList with
   |true=>
    go_enter Tryz.func109,Tryz.ntmps109
    go_wp2_with(go_at_call 180;refine(fA _ _ b).mono ?_;rintro e w2 ⟨rfl,rfl⟩)
    refine(jg _ _ b).mono ?_;rintro e g ⟨a,x,y,rfl,_⟩
    go_wp2_with(first|(go_at_call 182;refine(iN _ _ b).mono ?_;rintro e h ⟨rfl,rfl⟩)|(go_at_call 113;refine(dw _ _).mono ?_;rintro e i ⟨rfl,rfl⟩)|(go_at_call 183;refine(dZ _ _).mono ?_;rintro e j ⟨rfl,rfl⟩))
    go_ret;exact⟨ax (by rw[c.out,d,f,k];rfl),a⟩
   |false=>
    cases l:jh s.toList with
    |true=>
     go_enter Tryz.func109,Tryz.ntmps109
     go_wp2_with(go_at_call 180;refine(fA _ _ b).mono ?_;rintro e w2 ⟨rfl,rfl⟩)
     refine(jg _ _ b).mono ?_;rintro e g ⟨a,x,y,rfl,_⟩
     go_wp2_with(first|(go_at_call 182;refine(iN _ _ b).mono ?_;rintro e h ⟨rfl,rfl⟩)|(go_at_call 113;refine(dw _ _).mono ?_;rintro e i ⟨rfl,rfl⟩)|(go_at_call 183;refine(dZ _ _).mono ?_;rintro e j ⟨rfl,rfl⟩))
     go_ret;exact⟨ax (by rw[c.out,d,f,k,l];rfl),a⟩
    |false=>
     go_enter Tryz.func109,Tryz.ntmps109
     go_wp2_with(go_at_call 180;refine(fA _ _ b).mono ?_;rintro e w2 ⟨rfl,rfl⟩)
     refine(jg _ _ b).mono ?_;rintro e g ⟨a,x,y,rfl,_⟩
     go_wp2_with(first|(go_at_call 182;refine(iN _ _ b).mono ?_;rintro e h ⟨rfl,rfl⟩)|(go_at_call 113;refine(dw _ _).mono ?_;rintro e i ⟨rfl,rfl⟩)|(go_at_call 183;refine(dZ _ _).mono ?_;rintro e j ⟨rfl,rfl⟩))
     go_ret;exact⟨ax (by rw[c.out,d,f,k,l,<-m.out];rfl),a⟩
def gN(l:List Bs)(x:Bs):Bool:=l.contains x
theorem AQ(l:List Bs)(s:ByteArray)(w:World)(b c cap:Nat)(t:l.length<=cap)(m:cap<=100000)(j:∀i (h:i<l.length),w.cell? ⟨b,c+i,none⟩=some (.string (aa l[i]))):
  Calls prog 114 #[.slice (some ⟨b,c,none⟩) l.length cap,.string s] w λe w'=>e=.returned (.bool (gN l s.toList))/\w'=w:=by
 have o:Hid _:=j;clear j;go_enter Tryz.func114,Tryz.ntmps114
 go_wp2_with fail
 go_loop [5] (λq=>∃k:Nat,k<=l.length/\q=.int .i64 k/\Hid (gN l s.toList=gN (l.drop k) s.toList)) (λi=>l.length- (intOf i).toNat)
 case atStart=>exact⟨0,zero_le _,rfl,rfl⟩
 case round=>
  obtain⟨k,r,rfl,d⟩:=hrel;by_cases a:k<l.length
  ·have f:=o.out k a;have g:Hid (gN (l.drop k) s.toList=(l[k]==s.toList||gN (l.drop (k+1)) s.toList)):=by
    unfold gN;rw[Hid,List.drop_eq_getElem_cons a,List.contains_cons];congr 1;rw[Bool.eq_iff_iff];simp;exact eq_comm
   have u:(aa l[k]).toList=l[k]:=aj _
   cases n:(l[k]==s.toList)with
   |true=>
    go_wp2_with fail
    go_ret;exact⟨ax (by rw[d.out,g.out,n];rfl),rfl⟩
   |false=>
    go_wp2_with fail
    go_round
    case rel=>exact⟨k+1,by omega,by go_num,by rw[Hid,d.out,g.out,n];rfl⟩
    case measure=>simp[intOf];omega
  ·have p:Hid (gN (l.drop k) s.toList=false):=by
    rw[Hid,List.drop_of_length_le (by omega)];rfl
   go_wp2_with fail
   go_ret;exact⟨ax (by rw[d.out,p.out]),rfl⟩
def fZ:List Bs:=[[43],[45],[42],[47],[61],[60],[60,61]]
theorem nW(l:Bs):gN fZ l=jG l:=by
 unfold gN fZ jG;simp only[List.contains_cons,List.contains_nil,Bool.or_false];simp only[Bool.or_assoc]
def oM(l:Bs):Bool:=jG l||(aS l&& !jh l)
theorem wZ(s:ByteArray)(w:World)(f:s.size<=maxLen):
  Calls prog 108 #[.string s] w λe w'=>e=.returned (.bool (oM s.toList))/\Below w.heap.size w w':=by
 have c:∀x:World,Calls prog 179 #[] x λe w'=>e=.returned (.slice (some ⟨x.heap.size,0,none⟩) 7 7)/\w'=x.alloc (.cells (fZ.map λt=>Value.string (aa t)).toArray 9):=by
  intro x;go_enter Tryz.func179,Tryz.ntmps179
  go_wp2
  go_ret;exact⟨rfl,rfl⟩
 have b:∀x:World,x.heap[w.heap.size]? =some (.cells (fZ.map λt=>Value.string (aa t)).toArray 9 (0,0))->Calls prog 114 #[.slice (some ⟨w.heap.size,0,none⟩) 7 7,.string s] x λe w'=>e=.returned (.bool (jG s.toList))/\w'=x:=by
  intro x p;rw[<-nW];refine AQ fZ s x w.heap.size 0 7 (by decide) (by omega) (λi h=> ?_);have n:i<fZ.length:=h;simp[World.cell?,p,n]
 have a:Hid (oM s.toList=(jG s.toList||(aS s.toList&& !jh s.toList))):=rfl;obtain⟨o,d⟩:∃o,o=Obj.cells (fZ.map λt=>Value.string (aa t)).toArray 9:=⟨_,rfl⟩;rw[<-d]at b;simp only[<-d]at c;clear d
 cases g:jG s.toList with
 |true=>
  rw[g]at a;go_enter Tryz.func108,Tryz.ntmps108
  go_wp2_with(first|(go_at_call 179;refine(c _).mono ?_;rintro e w2 ⟨rfl,rfl⟩)|(go_at_call 114;refine(b _ (bI w o)).mono ?_;rintro e k ⟨rfl,rfl⟩)|(go_at_call 112;refine(gI _ _ f).mono ?_;rintro e l ⟨rfl,rfl⟩)|(go_at_call 113;refine(dw _ _).mono ?_;rintro e m ⟨rfl,rfl⟩))
  go_ret;exact⟨ax (by rw[a.out];rfl),(refl _ _).alloc (le_refl _) _⟩
 |false=>
  rw[g]at a
  cases j:aS s.toList with
  |true=>
   rw[j]at a;go_enter Tryz.func108,Tryz.ntmps108
   go_wp2_with(first|(go_at_call 179;refine(c _).mono ?_;rintro e w2 ⟨rfl,rfl⟩)|(go_at_call 114;refine(b _ (bI w o)).mono ?_;rintro e k ⟨rfl,rfl⟩)|(go_at_call 112;refine(gI _ _ f).mono ?_;rintro e l ⟨rfl,rfl⟩)|(go_at_call 113;refine(dw _ _).mono ?_;rintro e m ⟨rfl,rfl⟩))
   go_ret;exact⟨ax (by rw[a.out];rfl),(refl _ _).alloc (le_refl _) _⟩
  |false=>
   rw[j]at a;go_enter Tryz.func108,Tryz.ntmps108
   go_wp2_with(first|(go_at_call 179;refine(c _).mono ?_;rintro e w2 ⟨rfl,rfl⟩)|(go_at_call 114;refine(b _ (bI w o)).mono ?_;rintro e k ⟨rfl,rfl⟩)|(go_at_call 112;refine(gI _ _ f).mono ?_;rintro e l ⟨rfl,rfl⟩)|(go_at_call 113;refine(dw _ _).mono ?_;rintro e m ⟨rfl,rfl⟩))
   go_ret;exact⟨ax (by rw[a.out];rfl),(refl _ _).alloc (le_refl _) _⟩
theorem kW{l:Bs}(h:aS l=true):jG l=false/\dQ l=false/\cz l=false/\iC l=false/\jO l=false/\(l== [40])=false/\(l== [41])=false:=by
 unfold aS at h;simp only[and_eq_true,decide_eq_true_eq]at h;obtain⟨⟨⟨y,_⟩,j⟩,z⟩:=h
 cases l with
 |nil=>simp at y
 |cons c r=>
  rw[List.headD_cons]at j;have B:97<=(c.toNat:Int)/\(c.toNat:Int)<=122:=by unfold eQ at j;simpa using j
  have b:∀n:Nat,n<97->(c==UInt8.ofNat n)=false:=by
   intro n C;rw[qX c n (by omega)];simp;omega
  have s:=b 43 (by omega);have g:=b 45 (by omega);have q:=b 42 (by omega);have u:=b 47 (by omega);have w:=b 61 (by omega);have i:=b 60 (by omega);have v:=b 48 (by omega);have m:=b 39 (by omega);have k:=b 36 (by omega);have o:=b 40 (by omega);have p:=b 41 (by omega);have a:∀(d:UInt8) (t:Bs),(c==d)=false->((c::r)==(d::t))=false:=by
   intro d t A;rw[List.cons_beq_cons,A];rfl
  have f:(c::r).contains 46=false:=by
   rw[eq_false_iff];intro x;rw[List.contains_iff_mem]at x;have:=List.all_eq_true.mp z 46 x;simp[Ab,eQ,bP]at this
  refine⟨?_, ?_, ?_, ?_, ?_,a 40 [] o,a 41 [] p⟩
  ·unfold jG;rw[a 43 [] s,a 45 [] g,a 42 [] q,a 47 [] u,a 61 [] w,a 60 [] i,a 60 [61] i];rfl
  ·rw[Bp _ (a 48 [] v)];have e:aU (c::r)=c::r:=by unfold aU;rw[if_neg];rw[List.headD_cons];intro h;rw[show(45:UInt8)=UInt8.ofNat 45 from rfl,g]at h;cases h
   rw[e,qx];have:(decide (49<=(c.toNat:Int))&&decide ((c.toNat:Int)<=57)||(decide ((c.toNat:Int)=48)&&decide ((0:Int)<0)))=false:=by simp;omega
   rw[this];simp
  ·unfold cz;have:((c::r).getD 0 0==39)=false:=m;rw[this];simp
  ·unfold iC;have:((c::r).headD 0==36)=false:=k;rw[this];simp
  ·unfold jO;rw[f];rfl
theorem Bi{l:Bs}(a:aL (l.headD 0).toNat=false):ku (aQ l) l=oM l:=by
 have hb:(l== [40])=false/\(l== [41])=false:=by
  constructor
  ·rw[eq_false_iff];intro h;rw[beq_iff_eq]at h;subst h;cases a
  ·rw[eq_false_iff];intro h;rw[beq_iff_eq]at h;subst h;cases a
 unfold aQ oM;rw[hb.1,hb.2,if_neg Bool.false_ne_true,if_neg Bool.false_ne_true]
 cases e:jG l with
 |true=>rw[if_pos rfl];rfl
 |false=>
  rw[if_neg Bool.false_ne_true,Bool.false_or]
  cases b:aS l with
  |true=>
   have f:=kW b;rw[f.2.1,f.2.2.1,f.2.2.2.1,if_neg Bool.false_ne_true,if_neg Bool.false_ne_true,if_neg Bool.false_ne_true,if_pos rfl];rfl
  |false=>
   have:∀k:Int,k≠8->k≠5->ku k l=false:=by intro k d c;simp[ku,d,c]
   rw[Bool.false_and];split
   ·exact this 3 (by decide) (by decide)
   ·split
    ·exact this 4 (by decide) (by decide)
    ·split
     ·exact this 7 (by decide) (by decide)
     ·rw[if_neg Bool.false_ne_true];split
      ·exact this 6 (by decide) (by decide)
      ·exact this 0 (by decide) (by decide)
theorem uQ{l:Bs}(h:jh l=true):aS l=true:=by
 unfold jh at h;simp only[Bool.or_eq_true,beq_iff_eq]at h;rcases h with(h|h)|h<;>(subst h;decide)
theorem vP{l:Bs}(h:jG l=true):fU l=false/\jh l=false:=by
 unfold jG at h;simp only[Bool.or_eq_true,beq_iff_eq]at h;rcases h with(((((h|h)|h)|h)|h)|h)|h<;>(subst h;decide)
theorem AU{l:Bs}(i:aL (l.headD 0).toNat=false):fT (aQ l) l=fU l:=by
 have hb:(l== [40])=false/\(l== [41])=false:=by
  constructor
  ·rw[eq_false_iff];intro h;rw[beq_iff_eq]at h;subst h;cases i
  ·rw[eq_false_iff];intro h;rw[beq_iff_eq]at h;subst h;cases i
 unfold aQ;rw[hb.1,hb.2,if_neg Bool.false_ne_true,if_neg Bool.false_ne_true]
 cases j:jG l with
 |true=>
  have:=vP j;rw[if_pos rfl,this.1];unfold fT;rw[this.2];rfl
 |false=>
  rw[if_neg Bool.false_ne_true]
  cases b:dQ l with
  |true=>rw[if_pos rfl];unfold fU;rw[b];rfl
  |false=>
   rw[if_neg Bool.false_ne_true]
   cases c:cz l with
   |true=>rw[if_pos rfl];unfold fU;rw[c];simp[fT]
   |false=>
    rw[if_neg Bool.false_ne_true]
    cases d:iC l with
    |true=>rw[if_pos rfl];unfold fU;rw[d];simp[fT]
    |false=>
     rw[if_neg Bool.false_ne_true]
     cases e:aS l with
     |true=>
      have f:=kW e;rw[if_pos rfl];unfold fU;rw[b,c,d,f.2.2.2.2.1];simp[fT]
     |false=>
      have a:jh l=false:=by
       cases a:jh l with
       |false=>rfl
       |true=>rw[uQ a]at e;cases e
      rw[if_neg Bool.false_ne_true]
      cases g:jO l with
      |true=>rw[if_pos rfl];unfold fU;rw[g];simp[fT]
      |false=>rw[if_neg Bool.false_ne_true];unfold fU;rw[b,c,d,g,a];simp[fT,a]
end Go.Proofs.YtdifpeaklamhnaaGreatDoor
