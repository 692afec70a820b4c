import Derived.Test.YtdifpeaklamhnaaGreatDoorRef4Z
import Derived.Deep.DeepCutAuto
import Derived.Deep.CutBlock
import Derived.Test.YtdifpeaklamhnaaGreatDoorDecoQZ
set_option linter.unusedVariables false
set_option linter.unusedSimpArgs false
set_option maxRecDepth 100000
set_option maxHeartbeats 0
namespace Go.Proofs.YtdifpeaklamhnaaGreatDoor
open Go.Proofs.Tryz
open Go.RowKit
open List (takeWhile_cons length_drop headD_cons drop_succ_cons drop_zero all_eq_true all_cons cons_append take_left take_succ_cons)
open Bool (not_eq_true and_eq_true or_eq_true eq_false_iff)
def qp(c:UInt8):Bool:=eD c.toNat
def kU(l:Bs):Nat:=(l.takeWhile qp).length
def dH(w:World)(rb:Nat)(s:ByteArray)(k:Nat)(v:Value):Prop:=w.heap[rb]? =some (.cells #[.string s,.int .i64 k,v] 180 (0,0))
theorem eP{x:World}{b:Nat}{a0 a1 a2:Value}{T:TypeId}(h:x.heap[b]? =some (.cells #[a0,a1,a2] T (0,0))):
  (x.cell? ⟨b,0,none⟩=some a0/\x.cell? ⟨b,1,none⟩=some a1/\x.cell? ⟨b,2,none⟩=some a2)/\(x.frozen? ⟨b,1,none⟩=false/\x.frozen? ⟨b,2,none⟩=false):=by
 simp[World.cell?,World.frozen?,h]
theorem dH.set{w:World}{a:Nat}{s:ByteArray}{k:Nat}{v:Value}(h:dH w a s k v)(b:Nat):dH (w.setCell ⟨a,1,none⟩ (.int .i64 b)) a s b v:=by
 unfold dH at*;simp[World.setCell,Array.getElem?_modify,h]
theorem dH.inc{w:World}{a:Nat}{s:ByteArray}{k:Nat}{v:Value}(h:dH w a s k v):dH (w.setCell ⟨a,1,none⟩ (.int .i64 ((k:Int)+1))) a s (k+1) v:=h.set (k+1)
theorem dH.lt{w:World}{rb:Nat}{s:ByteArray}{k:Nat}{v:Value}(h:dH w rb s k v):rb<w.heap.size:=af h
theorem gF{a w:World}{row:Option Nat}(h:a.grownBy w row)(n:Nat):a.grownBy (w.drewN n) row:=⟨h.os,h.tape,h.output,h.size,h.block⟩
theorem dH.drewN{w:World}{a:Nat}{s:ByteArray}{k:Nat}{v:Value}(h:dH w a s k v)(n:Nat):dH (w.drewN n) a s k v:=h
theorem RQ(s:ByteArray)(k:Nat)(h:k<s.size):kU (s.toList.drop k)=if qp s[k]then kU (s.toList.drop (k+1))+1 else 0:=by
 unfold kU;rw[drop_cons s k h,takeWhile_cons];split<;>simp
theorem Uk(s:ByteArray)(k:Nat)(h:s.size<=k):kU (s.toList.drop k)=0:=by
 unfold kU;rw[List.drop_of_length_le (by rw[ai];exact h)];rfl
theorem jV(s:ByteArray)(y:s.size<=400)(w:World)(d a:Nat)(v:Value)(h:dH w d s a v)(n:a<=s.size):
  Calls prog 106 #[.pointer (some ⟨d,0,none⟩)] w λe w'=>e=.returned (.bool (decide (0<kU (s.toList.drop a))))/\a+kU (s.toList.drop a)<=s.size/\w.grownBy w' (some d)/\dH w' d s (a+kU (s.toList.drop a)) v:=by
 obtain⟨⟨q,r,t⟩,f1,f2⟩:=eP h;go_enter Tryz.func106,Tryz.ntmps106
 go_wp2_with fail
 go_loopg [8] (s.size- a) (λgk _ wr=>∃k:Nat,gk=s.size- k/\k<=s.size/\a<=k/\Hid (a+kU (s.toList.drop a)=k+kU (s.toList.drop k))/\w.grownBy wr (some d)/\dH wr d s k v)
 case atStart=>exact⟨a,rfl,n,Nat.le_refl _,rfl,fw _ _,h⟩
 case round=>
  clear q r t f1 f2;obtain⟨k,m,p,x,f,l,i⟩:=hrel;subst m;obtain⟨⟨q,r,t⟩,f1,f2⟩:=eP i;by_cases o:k<s.size
  ·have g:=RQ s k o;replace g:Hid _:=g;by_cases hb:eD s[k].toNat=true
   ·have b:Hid (a+kU (s.toList.drop a)=(k+1)+kU (s.toList.drop (k+1))):=by
     rw[Hid,f.out,g.out,qp,hb];simp;omega
    go_wp2_with fail
    go_quiet ((go_at_call 177;exact Calls.quiet_of_same (mg _ _)))
    go_wp2_with fail
    go_roundg (s.size- (k+1))
    case measure=>omega
    case rel=>exact⟨k+1,rfl,by omega,by omega,b,gF (aD l (ek _ _ _ _)) _,(i.inc).drewN _⟩
   ·rw[not_eq_true]at hb;have b:Hid (kU (s.toList.drop k)=0):=by rw[Hid,g.out,qp,hb];rfl
    have c:Hid (a+kU (s.toList.drop a)=k):=by rw[Hid,f.out,b.out];rfl
    have j:Hid (decide (0<kU (s.toList.drop a))=decide (a<k)):=by rw[Hid,decide_eq_decide];have:=c.out;omega
    clear f g b
    go_wp2_with fail
    go_quiet ((go_at_call 177;exact Calls.quiet_of_same (mg _ _)))
    go_wp2_with fail
    go_ret;exact⟨ax j.out.symm,by rw[c.out];exact p,gF l _,by rw[c.out];exact i⟩
  ·have b:Hid (kU (s.toList.drop k)=0):=Uk s k (by omega);have c:Hid (a+kU (s.toList.drop a)=k):=by rw[Hid,f.out,b.out];rfl
   have j:Hid (decide (0<kU (s.toList.drop a))=decide (a<k)):=by rw[Hid,decide_eq_decide];have:=c.out;omega
   have u:decide ((k:Int)<(s.size:Int))=false:=by simp;omega
   clear f b
   go_wp2_with fail
   go_quiet ((go_at_call 177;exact Calls.quiet_of_same (mg _ _)))
   go_wp2_with fail
   go_ret;exact⟨ax j.out.symm,by rw[c.out];exact p,gF l _,by rw[c.out];exact i⟩
def jT(c:UInt8):Bool:= !eD c.toNat&& !aL c.toNat&& !(c==39)
def oZ:Bs->Nat
 | []=>0
 |c::r=>if c==39 then 1 else oZ r+1
def qz:Bs->Nat
 | []=>0
 |c::r=>if jT c then qz r+1 else 0
def bU(l:Bs):Nat:=1+(if l.headD 0==39 then oZ (l.drop 1)else qz (l.drop 1))
theorem RH(l:Bs):oZ l<=l.length:=by
 induction l with
 |nil=>simp[oZ]
 |cons c r ih=>rw[oZ];split<;>simp;omega
theorem RG(l:Bs):qz l<=l.length:=by
 induction l with
 |nil=>simp[qz]
 |cons c r ih=>rw[qz];split<;>simp;omega
theorem GR(l:Bs)(h:0<l.length):bU l<=l.length:=by
 unfold bU;have a:=RH (l.drop 1);have b:=RG (l.drop 1);rw[length_drop]at a b;split<;>omega
theorem MH(s:ByteArray)(k:Nat)(h:k<s.size):oZ (s.toList.drop k)=if s[k]==39 then 1 else oZ (s.toList.drop (k+1))+1:=by rw[drop_cons s k h,oZ]
theorem MG(s:ByteArray)(k:Nat)(h:k<s.size):qz (s.toList.drop k)=if jT s[k]then qz (s.toList.drop (k+1))+1 else 0:=by rw[drop_cons s k h,qz]
theorem RI(s:ByteArray)(k:Nat)(h:s.size<=k):oZ (s.toList.drop k)=0/\qz (s.toList.drop k)=0:=by
 rw[List.drop_of_length_le (by rw[ai];exact h)];exact⟨rfl,rfl⟩
theorem dB{a w:World}{row:Option Nat}(h:a.grownBy w row):a.grownBy w.drew row:=⟨h.os,h.tape,h.output,h.size,h.block⟩
theorem dH.drew{w:World}{a:Nat}{s:ByteArray}{k:Nat}{v:Value}(h:dH w a s k v):dH w.drew a s k v:=h
theorem Gq(s:ByteArray)(i:Nat)(h:i<s.size):(s.toList.drop i).isEmpty=false/\(s.toList.drop i).headD 0=s[i]:=by
 rw[drop_cons s i h];exact⟨rfl,rfl⟩
theorem QR(s:ByteArray)(k n:Nat):(s.extract k (k+n)).toList=(s.toList.drop k).take n:=by
 rw[ByteArray.toList_eq,ByteArray.data_extract,Array.toList_extract,<-ByteArray.toList_eq,List.extract_eq_take_drop,Nat.add_sub_cancel_left]
def mR(l:Bs)(n:Nat):Bool:=decide (0<kU (l.drop n))||(l.drop n).isEmpty||aL ((l.drop n).headD 0).toNat
def cB(l:Bs):Bs:=if mR l (bU l)then l.take (bU l)else []
theorem zS(s:ByteArray)(w:World)(c k:Nat)(v:Value)(h:dH w c s k v)(d:k<=s.size)(b:k=s.size\/∃a:k<s.size,aL s[k].toNat=true):
  Calls prog 107 #[.pointer (some ⟨c,0,none⟩)] w λe w'=>e=.returned (.string ⟨#[]⟩)/\w'=w:=by
 obtain⟨⟨f,g,i⟩,f1,f2⟩:=eP h;by_cases a:k<s.size
 ·have hb:aL s[k].toNat=true:=by rcases b with h|⟨_,h⟩;omega;exact h
  clear b;go_enter Tryz.func107,Tryz.ntmps107
  go_wp2_with(go_at_call 178;refine(eG _ _).mono ?_;rintro e w2 ⟨rfl,rfl⟩)
  go_ret;exact⟨rfl,rfl⟩
 ·clear b;go_enter Tryz.func107,Tryz.ntmps107
  go_wp2_with(go_at_call 178;refine(eG _ _).mono ?_;rintro e w2 ⟨rfl,rfl⟩)
  go_ret;exact⟨rfl,rfl⟩
theorem tQ(s:ByteArray)(hs:s.size<=400)(w:World)(C k:Nat)(v:Value)(h:dH w C s k v)(a0:k<s.size)(hb:aL s[k].toNat=false):
  Calls prog 107 #[.pointer (some ⟨C,0,none⟩)] w λe w'=>e=.returned (.string (aa (cB (s.toList.drop k))))/\
   (∃k',k'=k+bU (s.toList.drop k)+kU (s.toList.drop (k+bU (s.toList.drop k)))/\k'<=s.size/\w.grownBy w' (some C)/\dH w' C s k' v):=by
 obtain⟨⟨O,H,P⟩,f1,f2⟩:=eP h;obtain⟨q,hq⟩:∃q,q=(s[k]==39):=⟨_,rfl⟩;have W:Hid (k+bU (s.toList.drop k)=(k+1)+(if q then oZ (s.toList.drop (k+1))else qz (s.toList.drop (k+1)))):=by
  rw[Hid,hq,bU,drop_cons s k a0];simp only[headD_cons,drop_succ_cons,drop_zero];omega
 have a6:((s[k].toNat:Int)==39)=q:=by rw[hq];exact kZ s[k] 39 (by omega)
 have M:=GR (s.toList.drop k) (by rw[length_drop,ai];omega);rw[length_drop,ai]at M;clear hq;have a2:decide (s.size<=k)=false:=by simp;omega
 have a1:decide ((s.size:Int)<=(k:Int))=false:=by simp;omega
 have f:∀(c:Int) (x:World),Calls prog 178 #[.int .u8 c] x λe w'=>e=.returned (.bool (aL c))/\x=w':=λc x=>(eG c x).mono λe w' h=>⟨h.1,h.2.symm⟩;have m:∀(c:Int) (x:World),Calls prog 177 #[.int .u8 c] x λe w'=>e=.returned (.bool (eD c))/\x=w':=λc x=>(mg c x).mono λe w' h=>⟨h.1,h.2.symm⟩;go_enter Tryz.func107,Tryz.ntmps107;go_upto_block 0 with(go_at_call 178;refine(f _ _).mono ?_;rintro e w2 ⟨rfl,rfl⟩)
 go_cut [] (λwx=>w.grownBy wx (some C)/\dH wx C s (k+bU (s.toList.drop k)) v)
 case first=>
  go_wp2_with fail
  go_loopg [5] (s.size- (k+1)) (λgk _ wr=>∃a:Nat,gk=s.size- a/\a<=s.size/\k<a/\Hid (k+bU (s.toList.drop k)=a+(if q then oZ (s.toList.drop a)else qz (s.toList.drop a)))/\w.grownBy wr (some C)/\dH wr C s a v)
  case atStart=>exact⟨k+1,rfl,by omega,by omega,W,ek _ _ _ _,h.inc⟩
  case round=>
   clear O H P f1 f2 W h;obtain⟨a,Z,a3,a5,i,B,l⟩:=hrel;subst Z;obtain⟨⟨O,H,P⟩,f1,f2⟩:=eP l;by_cases J:a<s.size
   ·have j:((s[a].toNat:Int)==39)=(s[a]==39):=kZ s[a] 39 (by omega);have A:=MH s a J;have z:=MG s a J
    cases q with
    |true=>
     cases b:(s[a]==39)with
     |true=>
      rw[b]at j A;have o:Hid (k+bU (s.toList.drop k)=a+1):=by rw[Hid,i.out,if_pos rfl,A];rfl
      clear i A z b
      go_wp2_with fail
      go_region;all_goals(try go_wp2_with fail)
      go_region;all_goals(try go_wp2_with(first|(go_at_call 178;refine(f _ _).mono ?_;rintro e w2 ⟨rfl,rfl⟩)|(go_at_call 177;refine(m _ _).mono ?_;rintro e w2 ⟨rfl,rfl⟩)))
      go_meet
      case rel=>
       rw[o.out];constructor
       ·exact dB (dB (aD B (ek _ _ _ _)))
       ·exact l.inc
     |false=>
      rw[b]at j A;have o:Hid (k+bU (s.toList.drop k)=(a+1)+(if true then oZ (s.toList.drop (a+1))else qz (s.toList.drop (a+1)))):=by
       rw[Hid,i.out,if_pos rfl,if_pos rfl,A,if_neg Bool.false_ne_true];omega
      clear i A z b
      go_wp2_with fail
      go_region;all_goals(try go_wp2_with fail)
      go_region;all_goals(try go_wp2_with(first|(go_at_call 178;refine(f _ _).mono ?_;rintro e w2 ⟨rfl,rfl⟩)|(go_at_call 177;refine(m _ _).mono ?_;rintro e w2 ⟨rfl,rfl⟩)))
      go_roundg (s.size- (a+1))
      case measure=>omega
      case rel=>
       refine⟨a+1,rfl,by omega,by omega,o, ?_, ?_⟩
       ·exact dB (dB (aD B (ek _ _ _ _)))
       ·exact l.inc
    |false=>
     by_cases t:eD s[a].toNat=true
     ·have o:Hid (k+bU (s.toList.drop k)=a):=by rw[Hid,i.out,if_neg Bool.false_ne_true,z,jT,t];rfl
      clear i A z
      go_wp2_with fail
      go_region;all_goals(try go_wp2_with fail)
      go_region;all_goals(try go_wp2_with(first|(go_at_call 178;refine(f _ _).mono ?_;rintro e w2 ⟨rfl,rfl⟩)|(go_at_call 177;refine(m _ _).mono ?_;rintro e w2 ⟨rfl,rfl⟩)))
      go_meet
      case rel=>
       rw[o.out];constructor
       ·exact dB (dB B)
       ·exact l
     ·rw[not_eq_true]at t;by_cases g:aL s[a].toNat=true
      ·have o:Hid (k+bU (s.toList.drop k)=a):=by rw[Hid,i.out,if_neg Bool.false_ne_true,z,jT,t,g];rfl
       clear i A z
       go_wp2_with fail
       go_region;all_goals(try go_wp2_with fail)
       go_region;all_goals(try go_wp2_with(first|(go_at_call 178;refine(f _ _).mono ?_;rintro e w2 ⟨rfl,rfl⟩)|(go_at_call 177;refine(m _ _).mono ?_;rintro e w2 ⟨rfl,rfl⟩)))
       go_meet
       case rel=>
        rw[o.out];constructor
        ·exact dB (dB B)
        ·exact l
      ·rw[not_eq_true]at g
       cases b:(s[a]==39)with
       |true=>
        have o:Hid (k+bU (s.toList.drop k)=a):=by rw[Hid,i.out,if_neg Bool.false_ne_true,z,jT,t,g,b];rfl
        rw[b]at j;clear i A z b
        go_wp2_with fail
        go_region;all_goals(try go_wp2_with fail)
        go_region;all_goals(try go_wp2_with(first|(go_at_call 178;refine(f _ _).mono ?_;rintro e w2 ⟨rfl,rfl⟩)|(go_at_call 177;refine(m _ _).mono ?_;rintro e w2 ⟨rfl,rfl⟩)))
        go_meet
        case rel=>
         rw[o.out];constructor
         ·exact dB (dB B)
         ·exact l
       |false=>
        have o:Hid (k+bU (s.toList.drop k)=(a+1)+(if false then oZ (s.toList.drop (a+1))else qz (s.toList.drop (a+1)))):=by
         rw[Hid,i.out,if_neg Bool.false_ne_true,if_neg Bool.false_ne_true,z,jT,t,g,b];simp;omega
        rw[b]at j;clear i A z b
        go_wp2_with fail
        go_region;all_goals(try go_wp2_with fail)
        go_region;all_goals(try go_wp2_with(first|(go_at_call 178;refine(f _ _).mono ?_;rintro e w2 ⟨rfl,rfl⟩)|(go_at_call 177;refine(m _ _).mono ?_;rintro e w2 ⟨rfl,rfl⟩)))
        go_roundg (s.size- (a+1))
        case measure=>omega
        case rel=>
         refine⟨a+1,rfl,by omega,by omega,o, ?_, ?_⟩
         ·exact dB (dB (aD B (ek _ _ _ _)))
         ·exact l.inc
   ·have o:Hid (k+bU (s.toList.drop k)=a):=by
     have:=RI s a (by omega);rw[Hid,i.out,this.1,this.2];split<;>rfl
    clear i
    go_wp2_with fail
    go_region;all_goals(try go_wp2_with fail)
    go_meet
    case rel=>
     rw[o.out];constructor
     ·exact dB B
     ·exact l
 case rest=>
  obtain⟨B,l⟩:=hcut;clear W O H P f1 f2 h;obtain⟨n,V⟩:∃n,n=bU (s.toList.drop k):=⟨_,rfl⟩;rw[<-V]at l M;have r:Hid _:=V;have T:(s.toList.drop k).drop n=s.toList.drop (k+n):=by rw[List.drop_drop]
  have R:Hid (s.extract k (k+n)=aa ((s.toList.drop k).take n)):=by
   rw[Hid,oD (s.extract k (k+n)),QR]
  have F:Hid (cB (s.toList.drop k)=if mR (s.toList.drop k) n then(s.toList.drop k).take n else []):=by rw[Hid,cB,<-V]
  have E:Hid (mR (s.toList.drop k) n=(decide (0<kU (s.toList.drop (k+n)))||(s.toList.drop (k+n)).isEmpty||aL ((s.toList.drop (k+n)).headD 0).toNat)):=by rw[Hid,mR,T]
  obtain⟨d,L⟩:∃d,d=k+n:=⟨_,rfl⟩;have a4:k<=d:=by omega
  have U:d<=s.size:=by omega
  rw[<-L]at l R E;have p:Hid _:=L;clear T V L M;obtain⟨⟨O,H,P⟩,f1,f2⟩:=eP l
  go_wp2_with fail
  go_region
  go_wp2_with(go_at_call 106;refine(jV s hs _ C d v l.drew U).mono ?_)
  rintro e w3 ⟨rfl,hk3,hg3,hR3⟩;have Q:w.grownBy w3 (some C):=aD (dB B) hg3;clear O H P f1 f2 B hg3 l;obtain⟨⟨O,H,P⟩,f1,f2⟩:=eP hR3;by_cases y:0<kU (s.toList.drop d)
  ·have I:Hid (cB (s.toList.drop k)=(s.toList.drop k).take n):=by
    rw[Hid,F.out,E.out,decide_eq_true y];rfl
   obtain⟨N,u⟩:∃N,N=d+kU (s.toList.drop d):=⟨_,rfl⟩;have H3:Hid _:=u;rw[<-u]at H hk3 hR3;have S:decide (0<kU (s.toList.drop d))=true:=decide_eq_true y;clear u y;by_cases K:N<s.size
   ·go_wp2_with fail
    go_quiet ((go_at_call 178;exact Calls.quiet_of_same (eG _ _)))
    go_wp2_with fail
    go_ret;exact⟨by rw[I.out,<-R.out];rfl,N,(by rw[H3.out,p.out,r.out]),hk3,gF Q _,hR3⟩
   ·have Y:decide ((N:Int)<(s.size:Int))=false:=by simp;omega
    go_wp2_with fail
    go_quiet ((go_at_call 178;exact Calls.quiet_of_same (eG _ _)))
    go_wp2_with fail
    go_ret;exact⟨by rw[I.out,<-R.out];rfl,N,(by rw[H3.out,p.out,r.out]),hk3,gF Q _,hR3⟩
  ·have G:kU (s.toList.drop d)=0:=by omega
   have S:decide (0<kU (s.toList.drop d))=false:=decide_eq_false y;have D:Hid (mR (s.toList.drop k) n=((s.toList.drop d).isEmpty||aL ((s.toList.drop d).headD 0).toNat)):=by rw[Hid,E.out,S];rfl
   have X:Hid _:=G;rw[G]at H hk3 hR3;simp only[Nat.add_zero]at H hk3 hR3;clear G y E;by_cases K:d<s.size
   ·obtain⟨r1,r2⟩:=Gq s d K;rw[r1,r2,Bool.false_or]at D;clear r1 r2
    cases g:aL s[d].toNat with
    |true=>
     have I:Hid (cB (s.toList.drop k)=(s.toList.drop k).take n):=by rw[Hid,F.out,D.out,g];rfl
     go_wp2_with fail
     go_quiet ((go_at_call 178;exact Calls.quiet_of_same (eG _ _)))
     go_wp2_with fail
     go_ret;exact⟨by rw[I.out,<-R.out];rfl,d,(by have G:=X.out;rw[p.out,r.out]at G ⊢;omega),hk3,gF Q _,hR3⟩
    |false=>
     have I:Hid (cB (s.toList.drop k)= []):=by rw[Hid,F.out,D.out,g];rfl
     go_wp2_with fail
     go_quiet ((go_at_call 178;exact Calls.quiet_of_same (eG _ _)))
     go_wp2_with fail
     go_ret;exact⟨by rw[I.out];rfl,d,(by have G:=X.out;rw[p.out,r.out]at G ⊢;omega),hk3,gF Q _,hR3⟩
   ·have I:Hid (cB (s.toList.drop k)=(s.toList.drop k).take n):=by
     have e:(s.toList.drop d).isEmpty=true:=by rw[List.drop_of_length_le (by rw[ai];omega)];rfl
     rw[Hid,F.out,D.out,e];rfl
    have Y:decide ((d:Int)<(s.size:Int))=false:=by simp;omega
    go_wp2_with fail
    go_quiet ((go_at_call 178;exact Calls.quiet_of_same (eG _ _)))
    go_wp2_with fail
    go_ret;exact⟨by rw[I.out,<-R.out];rfl,d,(by have G:=X.out;rw[p.out,r.out]at G ⊢;omega),hk3,gF Q _,hR3⟩
def qw(l:Bs):Bool:=l.all λc=> !(c==39)
theorem vM{l:Bs}(h:aS l=true):qw l=true:=by
 unfold aS at h;simp only[and_eq_true]at h;unfold qw;rw[all_eq_true];intro c b;have:=List.all_eq_true.mp h.2 c b
 cases a:(c==39)with
 |false=>rfl
 |true=>rw[beq_iff_eq]at a;subst a;simp[Ab,eQ,bP]at this
theorem Me(l:Bs):∀n:Int,bN l n=true->qw l=true:=by
 induction l with
 |nil=>intro n _;rfl
 |cons c r ih=>
  intro n h;rw[bN,and_eq_true,and_eq_true]at h;have b:=kG h.1.1;unfold qw;rw[all_cons,and_eq_true];refine⟨?_,ih _ h.2⟩
  cases a:(c==39)with
  |false=>rfl
  |true=>rw[beq_iff_eq]at a;subst a;simp at b
theorem OX{l:Bs}(h:dQ l=true):qw l=true:=by
 unfold dQ at h;rw[or_eq_true]at h;rcases h with h|h
 ·rw[beq_iff_eq]at h;subst h;decide
 ·simp only[and_eq_true]at h;have b:=Me _ _ h.2;unfold aU at b
  cases l with
  |nil=>rfl
  |cons c r=>
   rw[headD_cons]at b
   cases a:(c==45)with
   |true=>
    rw[a,if_pos rfl]at b;rw[beq_iff_eq]at a;subst a;unfold qw at b ⊢;rw[all_cons];simpa using b
   |false=>rw[a,if_neg Bool.false_ne_true]at b;exact b
theorem OY{l:Bs}(h:iC l=true):qw l=true:=by
 unfold iC at h;simp only[and_eq_true,decide_eq_true_eq]at h;obtain⟨⟨⟨d,e⟩,f⟩,_⟩:=h
 match l,d with
 | [a,b],_=>
  have g:a=36:=by simpa using e
  have hb:=kG f;subst g;unfold qw;have:(b==39)=false:=by
   cases c:(b==39)with
   |false=>rfl
   |true=>rw[beq_iff_eq]at c;subst c;simp at hb
  simp[this]
theorem OW{l:Bs}(h:jO l=true):qw l=true:=by
 unfold jO at h;simp only[and_eq_true]at h;obtain⟨⟨g,d⟩,f⟩:=h;have a1:=vM d;have a2:=vM f;have e:=zU l;have i:=(pV l 46 g);unfold qw at*;rw[e,List.all_append,a1,Bool.true_and]
 cases b:l.dropWhile (· != 46)with
 |nil=>rfl
 |cons c r=>
  rw[b]at a2;have a:(c != 46)=false:=by
   have:=List.head?_dropWhile_not (p:=(· != 46)) l;rw[b]at this;simpa using this
  have:c=46:=by simpa using a
  subst this;rw[all_cons];simpa using a2
theorem Mf{l:Bs}(h:jG l=true):qw l=true:=by
 unfold jG at h;simp only[or_eq_true,beq_iff_eq]at h;rcases h with(((((h|h)|h)|h)|h)|h)|h<;>(subst h;decide)
theorem qK{l:Bs}(h:aQ l≠0):cz l=true\/qw l=true:=by
 unfold aQ at h;split at h
 ·next e=>right;rw[beq_iff_eq]at e;subst e;decide
 ·split at h
  ·next e=>right;rw[beq_iff_eq]at e;subst e;decide
  ·split at h
   ·next e=>right;exact Mf e
   ·split at h
    ·next e=>right;exact OX e
    ·split at h
     ·next e=>left;exact e
     ·split at h
      ·next e=>right;exact OY e
      ·split at h
       ·next e=>right;exact vM e
       ·split at h
        ·next e=>right;exact OW e
        ·exact absurd rfl h
theorem tF{l:Bs}(h:cz l=true):∃a:Bs,l=39::(a++ [39])/\a.all (λc=>c != 39)=true:=by
 unfold cz at h;simp only[and_eq_true,decide_eq_true_eq]at h;obtain⟨⟨⟨⟨g,_⟩,n⟩,i⟩,b⟩:=h
 cases l with
 |nil=>simp at g
 |cons c r=>
  have o:c=39:=by simpa using n
  subst o
  cases f:r.reverse with
  |nil=>rw[List.reverse_eq_nil_iff]at f;subst f;simp at g
  |cons d m=>
   have e:r=m.reverse++ [d]:=by have:=congrArg List.reverse f;simpa using this
   subst e;have p:d=39:=by
    have j:(39::(m.reverse++ [d])).getD ((39::(m.reverse++ [d])).length- 1) 0=d:=by
     rw[List.getD_eq_getElem?_getD];simp
    rw[j]at i;simpa using i
   subst p;refine⟨m.reverse,rfl, ?_⟩;have k:((39::(m.reverse++ [39])).take ((39::(m.reverse++ [39])).length- 1)).drop 1=m.reverse:=by simp
   rw[k]at b;rw[all_eq_true]at b ⊢;intro x q;have:=b x q;unfold qQ at this;simp only[and_eq_true]at this;simpa using this.2
theorem Gr(i r:Bs)(h:i.all (λc=>c != 39)=true):oZ (i++39::r)=i.length+1:=by
 induction i with
 |nil=>rfl
 |cons c t ih=>
  rw[all_cons,and_eq_true]at h;have:(c==39)=false:=by simpa using h.1
  rw[cons_append,oZ,this,if_neg Bool.false_ne_true,ih h.2];simp
theorem PE(t r:Bs)(h:t.all jT=true)(a:r= []\/jT (r.headD 0)=false):qz (t++r)=t.length:=by
 induction t with
 |nil=>
  rcases a with rfl|a
  ·rfl
  ·cases r with
   |nil=>rfl
   |cons c r=>simp only[headD_cons]at a;rw[List.nil_append,qz,a];rfl
 |cons c t ih=>
  rw[all_cons,and_eq_true]at h;rw[cons_append,qz,h.1,if_pos rfl,ih h.2];simp
theorem vR(c:UInt8):jT c=(!pu c&& !(c==39)):=by unfold jT pu;cases eD c.toNat<;>cases aL c.toNat<;>rfl
theorem PK{l:Bs}{n:Nat}(h:rY (l.drop n)):mR l n=true:=by
 unfold mR;rcases h with h|h
 ·rw[h];rfl
 ·cases a:l.drop n with
  |nil=>rfl
  |cons c r=>
   rw[a]at h;simp only[headD_cons]at h ⊢;unfold pu at h;rw[or_eq_true]at h;rcases h with h|h
   ·have:0<kU (c::r):=by unfold kU;rw[takeWhile_cons,qp,h];simp
    rw[decide_eq_true this];rfl
   ·rw[h];simp
theorem Oh{l:Bs}{n:Nat}(h:mR l n=true):rY (l.drop n):=by
 unfold mR at h
 cases a:l.drop n with
 |nil=>exact .inl rfl
 |cons c r=>
  rw[a]at h;right;simp only[headD_cons,or_eq_true,decide_eq_true_eq]at h ⊢;rcases h with(h|h)|h
  ·unfold kU at h;rw[takeWhile_cons]at h
   cases hb:qp c with
   |true=>unfold qp at hb;unfold pu;rw[hb];rfl
   |false=>rw[hb]at h;simp at h
  ·cases h
  ·unfold pu;rw[h];simp
theorem Jp{b r:Bs}(g:Good b)(f:rY r):bU (b++r)=b.length/\cB (b++r)=b:=by
 have a:bU (b++r)=b.length:=by
  have o:=vF g;rcases g with⟨j,d⟩|⟨i,rfl,d⟩
  ·cases b with
   |nil=>exact absurd rfl j
   |cons c t=>
    rw[all_cons,and_eq_true]at d;have k:(c==39)=false:=by have:=d.1;simp at this;simpa using this.2
    have l:t.all jT=true:=by
     rw[all_eq_true];intro x n;have:=List.all_eq_true.mp d.2 x n;rw[vR];simpa[bne]using this
    have m:r= []\/jT (r.headD 0)=false:=by
     rcases f with h|h
     ·exact .inl h
     ·right;rw[vR,h];rfl
    unfold bU;simp only[cons_append,headD_cons,drop_succ_cons,drop_zero,k,Bool.false_eq_true,if_false];rw[PE t r l m];simp;omega
  ·unfold bU;have e:((39::(i++ [39]))++r).drop 1=i++39::r:=by simp
   rw[e,Gr i r d];simp;omega
 refine⟨a, ?_⟩;unfold cB;rw[a,take_left,PK (by rw[List.drop_left];exact f)];rfl
theorem Cf(l:Bs):(l.take (qz l)).all jT=true:=by
 induction l with
 |nil=>rfl
 |cons c r ih=>
  rw[qz]
  cases h:jT c with
  |true=>rw[if_pos rfl,take_succ_cons,all_cons,h,ih];rfl
  |false=>rfl
theorem MI(l:Bs):(∃i r,l=i++39::r/\i.all (λc=>c != 39)=true/\oZ l=i.length+1)\/(qw l=true/\oZ l=l.length):=by
 induction l with
 |nil=>right;exact⟨rfl,rfl⟩
 |cons c r ih=>
  cases h:(c==39)with
  |true=>
   left;refine⟨[],r, ?_,rfl, ?_⟩
   ·rw[beq_iff_eq]at h;rw[h];rfl
   ·rw[oZ,h];rfl
  |false=>
   rcases ih with⟨i,t,rfl,b,a⟩|⟨d,a⟩
   ·left;refine⟨c::i,t,rfl, ?_, ?_⟩
    ·rw[all_cons,b];simpa using h
    ·rw[oZ,h,if_neg Bool.false_ne_true,a];simp
   ·right;refine⟨?_, ?_⟩
    ·unfold qw at*;rw[all_cons,d,h];rfl
    ·rw[oZ,h,if_neg Bool.false_ne_true,a];simp
theorem IE{l:Bs}(p:0<l.length)(n:pu (l.headD 0)=false)(k:cB l≠ [])(b:aQ (cB l)≠0):∃r,l=cB l++r/\Good (cB l)/\rY r/\r=l.drop (bU l):=by
 unfold cB at k b ⊢
 cases h:mR l (bU l)with
 |false=>rw[h]at k;exact absurd rfl k
 |true=>
  rw[h,if_pos rfl]at b;rw[if_pos rfl];refine⟨l.drop (bU l),(List.take_append_drop _ _).symm, ?_,Oh h,rfl⟩
  cases l with
  |nil=>simp at p
  |cons c r=>
   rw[headD_cons]at n;unfold bU at b ⊢;simp only[headD_cons,drop_succ_cons,drop_zero]at b ⊢
   cases a:(c==39)with
   |false=>
    rw[a,if_neg Bool.false_ne_true,Nat.add_comm,take_succ_cons]at b;rw[if_neg Bool.false_ne_true,Nat.add_comm,take_succ_cons];refine .inl ⟨by simp, ?_⟩;rw[all_cons,n,and_eq_true];refine⟨by simpa using a, ?_⟩;have:=Cf r;rw[all_eq_true]at this ⊢;intro x u;have g:=this x u;rw[vR]at g;simpa[bne]using g
   |true=>
    rw[a,if_pos rfl,Nat.add_comm,take_succ_cons]at b;rw[if_pos rfl,Nat.add_comm,take_succ_cons];have q:c=39:=by simpa using a
    subst q;rcases MI r with⟨i,t,rfl,s,j⟩|⟨m,j⟩
    ·rw[j];have e:(i++39::t).take (i.length+1)=i++ [39]:=by
      rw[show i++39::t=(i++ [39])++t by simp];have:(i++ [39]).length=i.length+1:=by simp
      rw[<-this,take_left]
     rw[e];exact .inr ⟨i,rfl,s⟩
    ·exfalso;rw[j,List.take_length]at b;rcases qK b with hq2|d
     ·obtain⟨f,e,_⟩:=tF hq2;have o:r=f++ [39]:=by simpa using e
      subst o;unfold qw at m;simp at m
     ·unfold qw at d;rw[all_cons]at d;cases d
theorem BO(l:Bs)(p:UInt8->Bool):l=l.takeWhile p++l.dropWhile p:=(List.takeWhile_append_dropWhile).symm
theorem nP(l:Bs)(p:UInt8->Bool):l.take (l.takeWhile p).length=l.takeWhile p/\l.drop (l.takeWhile p).length=l.dropWhile p:=by
 have e:=BO l p;constructor
 ·have:(l.takeWhile p++l.dropWhile p).take (l.takeWhile p).length=l.takeWhile p:=take_left;rw[<-e]at this;exact this
 ·have:(l.takeWhile p++l.dropWhile p).drop (l.takeWhile p).length=l.dropWhile p:=List.drop_left;rw[<-e]at this;exact this
theorem TP(l:Bs):rY (l.dropWhile dC):=by
 cases a:l.dropWhile dC with
 |nil=>exact .inl rfl
 |cons c r=>
  right;have:dC c=false:=by
   have:=List.head?_dropWhile_not (p:=dC) l;rw[a]at this;simpa using this
  rw[kP]at this;simpa using this
theorem Ak{l:Bs}(q:0<l.length)(d:pu (l.headD 0)=false)(f:aQ (l.take (eO l))≠0):Good (l.take (eO l))/\rY (l.drop (eO l)):=by
 have j:eO l=ma l+((l.drop (ma l)).takeWhile dC).length:=by
  unfold eO;rw[(rJ d).2,if_neg Bool.false_ne_true]
 have b:rY (l.drop (eO l)):=by
  rw[j,<-List.drop_drop,(nP _ _).2];exact TP _
 refine⟨?_,b⟩
 cases l with
 |nil=>simp at q
 |cons c r=>
  rw[headD_cons]at d
  cases a:(c==39)with
  |false=>
   have y:ma (c::r)=0:=by unfold ma;rw[headD_cons,a];rfl
   rw[y,drop_zero,Nat.zero_add]at j;have z:(c::r).take (eO (c::r))=(c::r).takeWhile dC:=by rw[j];exact(nP _ _).1
   rw[z]at f ⊢;have g:(c::r).takeWhile dC≠ []:=by rw[takeWhile_cons,kP,d];simp
   have w:qw ((c::r).takeWhile dC)=true:=by
    rcases qK f with h|h
    ·obtain⟨i,e,_⟩:=tF h;rw[takeWhile_cons,kP,d]at e;simp only[Bool.not_false,if_true,List.cons.injEq]at e;rw[e.1]at a;cases a
    ·exact h
   refine .inl ⟨g, ?_⟩;rw[all_eq_true];intro x o;have k:dC x=true:=by
    have:=List.all_takeWhile (l:=c::r) (p:=dC);rw[all_eq_true]at this;exact this x o
   have s:=List.all_eq_true.mp w x o;rw[kP]at k;rw[k];simpa[bne]using s
  |true=>
   have t:c=39:=by simpa using a
   subst t;rcases qK f with h|h
   ·obtain⟨i,e,u⟩:=tF h;rw[e];exact .inr ⟨i,rfl,u⟩
   ·exfalso;have n:0<eO (39::r):=oW _ (by simp) (rJ d).1;obtain⟨m,v⟩:∃m,eO (39::r)=m+1:=⟨eO (39::r)- 1,by omega⟩;rw[v,take_succ_cons]at h;unfold qw at h;rw[all_cons]at h;cases h
theorem PX{l:Bs}(a:0<l.length)(e:pu (l.headD 0)=false)(c:aQ (l.take (eO l))≠0):cB l=l.take (eO l)/\bU l=eO l:=by
 obtain⟨g,b⟩:=Ak a e c;have d:(l.take (eO l)).length=eO l:=by rw[List.length_take];have:=Db l a;omega
 have:=Jp (r:=l.drop (eO l)) g b;rw[List.take_append_drop]at this;exact⟨this.2,by rw[this.1,d]⟩
def lL(l:Bs):Bs:=l.drop (kU l)
def jW(l:Bs):Bs × Bs:=if l.length=0\/aL (l.headD 0).toNat=true then([],l)else(cB l,lL (l.drop (bU l)))
mutual
def uF:Nat->Nat->Bs->Option (Tr × Bs)
 |0,_,_=>none
 |f+1,deep,l=>
  if(lL l).headD 0==40 then
   (if oM (jW (lL ((lL l).drop 1))).1&&decide (deep<20)then
    (nX f (deep+1) (jW (lL ((lL l).drop 1))).2).map (λp=>(Tr.mk (aQ (jW (lL ((lL l).drop 1))).1) (jW (lL ((lL l).drop 1))).1 true p.1,lL (p.2.drop 1)))
   else none)
  else if fU (jW (lL l)).1 then some (Tr.mk (aQ (jW (lL l)).1) (jW (lL l)).1 false [],(jW (lL l)).2)else none
def nX:Nat->Nat->Bs->Option (List Tr × Bs)
 |0,_,_=>none
 |f+1,deep,l=>
  if l.length=0 then none else if l.headD 0==41 then some ([],l)else
   match uF f deep l with
   |none=>none
   |some (x,r)=>(nX f deep r).map (λp=>(x::p.1,p.2))
end
theorem nN(l:Bs):kU (lL l)=0:=by
 unfold lL kU;rw[(nP l qp).2]
 cases a:l.dropWhile qp with
 |nil=>rfl
 |cons c r=>
  have:qp c=false:=by
   have:=List.head?_dropWhile_not (p:=qp) l;rw[a]at this;simpa using this
  rw[takeWhile_cons,this];rfl
theorem Du{l:Bs}(h:kU l=0)(a:0<l.length):eD (l.headD 0).toNat=false:=by
 cases l with
 |nil=>simp at a
 |cons c r=>
  unfold kU at h;rw[takeWhile_cons]at h
  cases hb:qp c with
  |true=>rw[hb]at h;simp at h
  |false=>exact hb
theorem mo(l:Bs):bE (lL l)=bE l:=by
 have e:l=l.takeWhile qp++lL l:=by unfold lL kU;rw[(nP l qp).2];exact BO l qp
 have hb:xX (l.takeWhile qp)=true:=List.all_takeWhile;have:=Gw (l.takeWhile qp) (lL l) hb;rw[<-e]at this;exact this.symm
theorem Dv(l:Bs):(lL l).length<=l.length:=by unfold lL;simp
theorem head_cons{l:Bs}{c:UInt8}(a:c≠0)(h:l.headD 0=c):l=c::l.drop 1:=by
 cases l with
 |nil=>simp at h;exact absurd h.symm a
 |cons d r=>simp at h;subst h;rfl
theorem Dq{c:UInt8}(a:c=40\/c=41)(r:Bs):bE (c::r)=(bE r).map ((aQ [c],[c]):: ·):=by
 have b:eO ([c]++r)=([c]:Bs).length:=by
  unfold eO;rw[if_pos];rfl;rcases a with rfl|rfl<;>rfl
 have:=Gx [c] r (by simp) (by rcases a with rfl|rfl<;>rfl) b;rw[if_neg (by rcases a with rfl|rfl<;>decide)]at this;exact this
theorem Km{l:Bs}(c:0<l.length)(h:pu (l.headD 0)=false)(i:cB l≠ [])(b:aQ (cB l)≠0):
  bE l=(bE (lL (l.drop (bU l)))).map ((aQ (cB l),cB l):: ·)/\Good (cB l):=by
 obtain⟨r,e,g,d,f⟩:=IE c h i b;have a:=Gx (cB l) r (EN g) (rJ (vF g)).1 (LA g d);rw[<-e,if_neg b]at a;rw[a,mo,<-f];exact⟨rfl,g⟩
theorem FE(o:Option (List Tk))(a b:List Tk):(o.map (b++ ·)).map (a++ ·)=o.map ((a++b)++ ·):=by cases o<;>simp
theorem LD{l:Bs}(b:aL (l.headD 0).toNat=false)(h:oM l=true):aQ l≠0/\l≠ []/\ku (aQ l) l=true:=by
 have e:=Bi b;rw[h]at e;refine⟨?_, ?_,e⟩
 ·intro a;rw[a]at e;simp[ku]at e
 ·intro a;subst a;cases h
theorem KS{l:Bs}(c:aL (l.headD 0).toNat=false)(h:fU l=true):aQ l≠0/\l≠ []/\fT (aQ l) l=true/\¬aQ l=1/\¬aQ l=2:=by
 have e:=AU c;rw[h]at e;have hb:(l== [40])=false/\(l== [41])=false:=by
  constructor
  ·rw[eq_false_iff];intro h;rw[beq_iff_eq]at h;subst h;cases c
  ·rw[eq_false_iff];intro h;rw[beq_iff_eq]at h;subst h;cases c
 have b:aQ l≠1/\aQ l≠2/\(aQ l=0->jh l=false):=by
  unfold aQ;rw[hb.1,hb.2,if_neg Bool.false_ne_true,if_neg Bool.false_ne_true];refine⟨?_, ?_, ?_⟩
  ·repeat(first|(split;decide)|decide)
   all_goals(repeat split)<;>decide
  ·repeat(first|(split;decide)|decide)
   all_goals(repeat split)<;>decide
  ·intro a
   cases g:jh l with
   |false=>rfl
   |true=>
    have d:=uQ g;have f:=kW d;rw[f.1,f.2.1,f.2.2.1,f.2.2.2.1,d]at a;simp at a
 refine⟨?_, ?_,e,b.1,b.2.1⟩
 ·intro a;rw[a]at e;unfold fT at e;rw[b.2.2 a]at e;simp at e
 ·intro a;subst a;cases h
theorem PY{l:Bs}(c:kU l=0)(a:(jW l).1≠ []):0<l.length/\aL (l.headD 0).toNat=false/\pu (l.headD 0)=false/\jW l=(cB l,lL (l.drop (bU l))):=by
 by_cases h:l.length=0\/aL (l.headD 0).toNat=true
 ·unfold jW at a;rw[if_pos h]at a;exact absurd rfl a
 ·have b:0<l.length:=by
   rcases Nat.eq_zero_or_pos l.length with e|e
   ·exact absurd (.inl e) h
   ·exact e
  have hb:aL (l.headD 0).toNat=false:=by
   rw[eq_false_iff];exact λe=>h (.inr e)
  refine⟨b,hb, ?_, ?_⟩
  ·unfold pu;rw[Du c b,hb];rfl
  ·unfold jW;rw[if_neg h]
theorem Kv{l:Bs}(b:0<l.length)(a:cB l≠ []):(cB l).headD 0=l.headD 0:=by
 unfold cB at a ⊢
 cases d:mR l (bU l)with
 |false=>rw[d]at a;exact absurd rfl a
 |true=>
  rw[if_pos rfl]
  cases l with
  |nil=>simp at b
  |cons c r=>
   have:bU (c::r)=bU (c::r)- 1+1:=by unfold bU;omega
   rw[this,take_succ_cons];rfl
mutual
theorem Bq:∀(f deep:Nat) (l:Bs) (t:Tr) (r:Bs),uF f deep l=some (t,r)->bE l=(bE r).map (vY t++ ·)/\Wf t/\deep+Uw t<=20+(if deep<=20 then 0 else deep- 20)/\kU r=0:=by
 intro f
 match f with
 |0=>intro deep l t r h;simp[uF]at h
 |f+1=>
  intro deep l t r h;rw[uF]at h
  cases d:((lL l).headD 0==40)with
  |true=>
   rw[d,if_pos rfl]at h;have x:lL l=40::(lL l).drop 1:=head_cons (by decide) (by simpa using d);obtain⟨l2,i⟩:∃l2,l2=lL ((lL l).drop 1):=⟨_,rfl⟩;rw[<-i]at h;have o:kU l2=0:=by rw[i];exact nN _
   cases b:(oM (jW l2).1&&decide (deep<20))with
   |false=>rw[b]at h;simp at h
   |true=>
    rw[b,if_pos rfl]at h;rw[and_eq_true,decide_eq_true_eq]at b;obtain⟨⟨u,w⟩,m,v⟩:=Option.map_eq_some_iff.mp h;simp only[Prod.mk.injEq]at v;obtain⟨rfl,rfl⟩:=v;have a:(jW l2).1≠ []:=by intro e;rw[e]at b;have:=b.1;cases this
    obtain⟨j,hb,n,k⟩:=PY o a;rw[k]at m b a ⊢;simp only at m b a ⊢;have c:=LD (by rw[Kv j a];exact hb) b.1;obtain⟨s1,g⟩:=Km j n c.2.1 c.1;obtain⟨s2,w2,d2,y⟩:=Bt f (deep+1) _ u w m;obtain⟨q,rfl⟩:∃q,w=41::q:=⟨_,head_cons (by decide) y⟩;refine⟨?_,.node rfl c.1 g c.2.2 w2, ?_,nN _⟩
    ·rw[<-mo l,x,Dq (.inl rfl),<-mo ((lL l).drop 1),<-i,s1,s2];rw[mo,Dq (.inr rfl)];rw[vY,if_pos rfl];have p:aQ [40]=1:=by decide
     have s:aQ [41]=2:=by decide
     rw[p,s];show _=(bE q).map _
     cases bE q<;>simp
    ·rw[Uw,if_pos rfl];have z:deep<20:=b.2;rw[if_pos (by omega)]at d2 ⊢;omega
  |false=>
   rw[d,if_neg Bool.false_ne_true]at h
   cases b:fU (jW (lL l)).1 with
   |false=>rw[b]at h;simp at h
   |true=>
    rw[b,if_pos rfl]at h;simp only[Option.some.injEq,Prod.mk.injEq]at h;obtain⟨rfl,rfl⟩:=h;have a:(jW (lL l)).1≠ []:=by intro e;rw[e]at b;cases b
    obtain⟨j,hb,n,k⟩:=PY (nN l) a;rw[k]at b a ⊢;simp only at b a ⊢;have c:=KS (by rw[Kv j a];exact hb) b;obtain⟨s1,g⟩:=Km j n c.2.1 c.1;refine⟨?_,.leaf rfl c.1 c.2.2.2.1 c.2.2.2.2 g c.2.2.1, ?_,nN _⟩
    ·rw[<-mo l,s1,vY]
     cases bE (lL ((lL l).drop (bU (lL l))))<;>simp
    ·rw[Uw];simp only[Bool.false_eq_true,if_false];split<;>omega
theorem Bt:∀(f a:Nat) (l:Bs) (c:List Tr) (r:Bs),nX f a l=some (c,r)->bE l=(bE r).map (qW c++ ·)/\SH c/\a+Ir c<=20+(if a<=20 then 0 else a- 20)/\r.headD 0=41:=by
 intro f
 match f with
 |0=>intro a l c r h;simp[nX]at h
 |f+1=>
  intro a l c r h;rw[nX]at h;by_cases e:l.length=0
  ·rw[if_pos e]at h;simp at h
  ·rw[if_neg e]at h
   cases b:(l.headD 0==41)with
   |true=>
    rw[b,if_pos rfl]at h;simp only[Option.some.injEq,Prod.mk.injEq]at h;obtain⟨rfl,rfl⟩:=h;refine⟨?_,.nil, ?_,by simpa using b⟩
    ·rw[qW];cases bE l<;>simp
    ·rw[Ir];split<;>omega
   |false=>
    rw[b,if_neg Bool.false_ne_true]at h
    cases d:uF f a l with
    |none=>rw[d]at h;simp at h
    |some p=>
     obtain⟨x,r1⟩:=p;rw[d]at h;simp only at h;obtain⟨⟨m,r2⟩,i,g⟩:=Option.map_eq_some_iff.mp h;simp only[Prod.mk.injEq]at g;obtain⟨rfl,rfl⟩:=g;obtain⟨s1,k,d1,n⟩:=Bq f a l x r1 d;obtain⟨s2,w2,d2,j⟩:=Bt f a r1 m r2 i;refine⟨?_,.cons k w2, ?_,j⟩
     ·rw[s1,s2,qW,FE]
     ·rw[Ir];omega
end
theorem JW{l:Bs}(a:aL (l.headD 0).toNat=false):¬aQ l=1/\¬aQ l=2:=by
 have hb:(l== [40])=false/\(l== [41])=false:=by
  constructor
  ·rw[eq_false_iff];intro h;rw[beq_iff_eq]at h;subst h;cases a
  ·rw[eq_false_iff];intro h;rw[beq_iff_eq]at h;subst h;cases a
 unfold aQ;rw[hb.1,hb.2,if_neg Bool.false_ne_true,if_neg Bool.false_ne_true];constructor
 ·repeat(first|(split;decide)|decide)
  all_goals(repeat split)<;>decide
 ·repeat(first|(split;decide)|decide)
  all_goals(repeat split)<;>decide
theorem SS{c:UInt8}(h:aL c.toNat=true):c=40\/c=41:=by
 unfold aL at h;simp at h;rcases h with h|h
 ·exact .inl (UInt8.toNat_inj.mp (by simp;omega))
 ·exact .inr (UInt8.toNat_inj.mp (by simp;omega))
theorem qg{l:Bs}{a:Tk}{k:List Tk}(u:kU l=0)(h:bE l=some (a::k)):
  (∃r,l=40::r/\a=(1,[40])/\bE r=some k)\/(∃r,l=41::r/\a=(2,[41])/\bE r=some k)\/
  (0<l.length/\aL (l.headD 0).toNat=false/\aL (a.2.headD 0).toNat=false/\a.1=aQ a.2/\(jW l).1=a.2/\bE (jW l).2=some k/\kU (jW l).2=0/\(jW l).2.length<l.length):=by
 have d:0<l.length:=by
  rcases Nat.eq_zero_or_pos l.length with e|e
  ·rw[kN l e]at h;cases h
  ·exact e
 have f:=Du u d
 cases b:aL (l.headD 0).toNat with
 |true=>
  cases l with
  |nil=>simp at d
  |cons c r=>
   simp only[headD_cons]at b;have p:=SS b;rw[Dq p]at h;obtain⟨o,j,g⟩:=Option.map_eq_some_iff.mp h;simp only[List.cons.injEq]at g;obtain⟨rfl,rfl⟩:=g;rcases p with rfl|rfl
   ·exact .inl ⟨r,rfl,rfl,j⟩
   ·exact .inr (.inl ⟨r,rfl,rfl,j⟩)
 |false=>
  right;right;have s:pu (l.headD 0)=false:=by unfold pu;rw[f,b];rfl
  rw[pq l d,f,if_neg Bool.false_ne_true]at h;by_cases n:aQ (l.take (eO l))=0
  ·rw[if_pos n]at h;cases h
  ·rw[if_neg n]at h;obtain⟨o,j,g⟩:=Option.map_eq_some_iff.mp h;simp only[List.cons.injEq]at g;obtain⟨rfl,rfl⟩:=g;have t:=PX d s n;have w:=oW l d f;have i:jW l=(cB l,lL (l.drop (bU l))):=by
    unfold jW;rw[if_neg];rintro(e|e)
    ·omega
    ·rw[b]at e;cases e
   refine⟨d,rfl, ?_,rfl, ?_, ?_, ?_, ?_⟩
   ·show aL ((l.take (eO l)).headD 0).toNat=false;obtain⟨m,q⟩:∃m,eO l=m+1:=⟨eO l- 1,by omega⟩
    cases l with
    |nil=>simp at d
    |cons c r=>rw[q,take_succ_cons];exact b
   ·rw[i];exact t.1
   ·rw[i,mo,t.2];exact j
   ·rw[i];exact nN _
   ·rw[i];have:=Dv (l.drop (bU l));have v:=t.2;rw[length_drop]at this;show(lL (l.drop (bU l))).length<l.length;omega
theorem comp:∀n:Nat,
  (∀(f c:Nat) (l:Bs) (g:List Tk) (t:Tr) (d:List Tk) (F:Nat),f<=n->bE l=some g->gX f c g=some (t,d)->2*l.length<=F->
   ∃r,uF F c l=some (t,r)/\bE r=some d/\kU r=0/\r.length<l.length)/\
  (∀(f c:Nat) (l:Bs) (g:List Tk) (C:List Tr) (d:List Tk) (F:Nat),f<=n->kU l=0->bE l=some g->lH f c g=some (C,d)->2*l.length+1<=F->
   ∃r,nX F c l=some (C,41::r)/\bE r=some d/\r.length<l.length):=by
 intro n
 induction n with
 |zero=>
  refine⟨?_, ?_⟩
  ·intro f c l g t d F I _ h;obtain rfl:f=0:=by omega
   simp[gX]at h
  ·intro f c l g t d F I _ _ h;obtain rfl:f=0:=by omega
   simp[lH]at h
 |succ n ih=>
  obtain⟨L,B⟩:=ih;refine⟨?_, ?_⟩
  ·intro f c l g t d F I m h hF
   cases f with
   |zero=>simp[gX]at h
   |succ f=>
   cases g with
   |nil=>simp[gX]at h
   |cons a g=>
    rw[<-mo]at m;have A:=Dv l;have R:0<l.length:=by
     rcases Nat.eq_zero_or_pos (lL l).length with e|e
     ·rw[kN _ e]at m;cases m
     ·omega
    obtain⟨G,rfl⟩:∃G,F=G+1:=⟨F- 1,by omega⟩;rw[uF];rw[gX]at h;rcases qg (nN l) m with⟨r,e,rfl,u⟩|⟨r,e,rfl,u⟩|⟨D,hb,i,o,k,j,v,w⟩
    ·rw[if_pos rfl]at h;rw[e]at A ⊢;simp only[List.length_cons]at A;simp only[headD_cons,beq_self_eq_true,if_true,drop_succ_cons,drop_zero]
     cases f with
     |zero=>simp[DL]at h
     |succ f=>
     cases g with
     |nil=>simp[DL]at h
     |cons b g=>
      rw[DL]at h;by_cases M:20<c+1
      ·rw[if_pos M]at h;cases h
      ·rw[if_neg M]at h
       cases s:ku b.1 b.2 with
       |false=>rw[s]at h;simp at h
       |true=>
        rw[s,if_pos rfl]at h;obtain⟨⟨C,q⟩,J,z⟩:=Option.map_eq_some_iff.mp h;simp only[Prod.mk.injEq]at z;obtain⟨rfl,rfl⟩:=z;have U:=Dv r;rw[<-mo]at u;rcases qg (nN r) u with⟨_,_,rfl,_⟩|⟨_,_,rfl,_⟩|⟨D,hb,i,o,k,j,v,w⟩
        ·cases s
        ·cases s
        ·obtain⟨O,V,X,l'⟩:=B f (c+1) _ g C q G (by omega) v j J (by omega);have T:oM b.2=true:=by rw[<-Bi i,<-o];exact s
         refine⟨lL O, ?_,by rw[mo];exact X,nN _, ?_⟩
         ·rw[k,T,decide_eq_true (by omega:c<20),V];simp[o]
         ·have:=Dv O;omega
    ·rw[if_neg (by decide)]at h;have:fT 2 [41]=false:=by decide
     simp only[this]at h;simp at h
    ·have N:=JW i;rw[<-o]at N;rw[if_neg N.1]at h
     cases s:fT a.1 a.2 with
     |false=>rw[s]at h;simp at h
     |true=>
      rw[s,if_pos rfl]at h;simp only[Option.some.injEq,Prod.mk.injEq]at h;obtain⟨rfl,rfl⟩:=h;have E:((lL l).headD 0==40)=false:=by
       rw[eq_false_iff];intro e;rw[beq_iff_eq]at e;rw[e]at hb;cases hb
      have S:fU a.2=true:=by rw[<-AU i,<-o];exact s
      rw[E,if_neg Bool.false_ne_true,k,S,if_pos rfl];refine⟨_,by rw[o],j,v,by omega⟩
  ·intro f c l g C d F I v m h hF
   cases f with
   |zero=>simp[lH]at h
   |succ f=>
   cases g with
   |nil=>simp[lH]at h
   |cons a g=>
    obtain⟨G,rfl⟩:∃G,F=G+1:=⟨F- 1,by omega⟩;have R:0<l.length:=by
     rcases Nat.eq_zero_or_pos l.length with e|e
     ·rw[kN _ e]at m;cases m
     ·omega
    rw[lH]at h;rw[nX,if_neg (by omega)];by_cases y:a.1=2
    ·rw[if_pos y]at h;simp only[Option.some.injEq,Prod.mk.injEq]at h;obtain⟨rfl,rfl⟩:=h;rcases qg v m with⟨r,rfl,rfl,u⟩|⟨r,rfl,rfl,u⟩|⟨D,hb,i,o,k,j,v,w⟩
     ·cases y
     ·exact⟨r,rfl,u,by simp⟩
     ·exact absurd (o▸y) (JW i).2
    ·rw[if_neg y]at h;have H:(l.headD 0==41)=false:=by
      rcases qg v m with⟨r,rfl,rfl,u⟩|⟨r,rfl,rfl,u⟩|⟨D,hb,i,o,k,j,v,w⟩
      ·rfl
      ·exact absurd rfl y
      ·rw[eq_false_iff];intro e;rw[beq_iff_eq]at e;rw[e]at hb;cases hb
     rw[H,if_neg Bool.false_ne_true]
     cases K:gX f c (a::g)with
     |none=>rw[K]at h;simp at h
     |some p=>
      obtain⟨x,q⟩:=p;rw[K]at h;simp only at h;obtain⟨⟨Y,W⟩,J,z⟩:=Option.map_eq_some_iff.mp h;simp only[Prod.mk.injEq]at z;obtain⟨rfl,rfl⟩:=z;obtain⟨r1,P,s1,Z,l1⟩:=L f c l _ x q G (by omega) m K (by omega);obtain⟨r2,Q,s2,l2⟩:=B f c r1 q Y W G (by omega) Z s1 J (by omega);rw[P];exact⟨r2,by simp[Q],s2,by omega⟩
def IY(l:Bs):Option Tr:=match uF (2*l.length+1) 0 l with|some (t,[])=>some t|_=>none
theorem PD(l:Bs)(h:l.length<=400):IY l=jw l:=by
 have o:jw l=(bE l).bind ik:=by unfold jw;rw[if_neg (by omega)]
 rw[o];have d:∀t,IY l=some t->(bE l).bind ik=some t:=by
  intro t a;unfold IY at a;split at a
  ·next m e=>
   simp only[Option.some.injEq]at a;subst a;obtain⟨s1,v,d1,_⟩:=Bq _ _ _ _ _ e;rw[kN [] rfl]at s1;simp only[Option.map_some,List.append_nil]at s1;rw[s1,Option.bind_some];have:=zq (f:=2*(vY m).length) (deep:=0) (r:=[]) v (by simpa using d1) (Nat.le_refl _);rw[List.append_nil]at this;unfold ik;rw[this]
  ·cases a
 have b:∀t,(bE l).bind ik=some t->IY l=some t:=by
  intro t a
  cases i:bE l with
  |none=>rw[i]at a;cases a
  |some x=>
   rw[i,Option.bind_some]at a;unfold ik at a;split at a
   ·next m e=>
    simp only[Option.some.injEq]at a;subst a;obtain⟨r,n,s1,w,_⟩:=(comp _).1 _ _ l _ _ _ (2*l.length+1) (Nat.le_refl _) i e (by omega);have u:r= []:=by
     cases r with
     |nil=>rfl
     |cons c q=>
      have k:0<(c::q).length:=by simp
      have hb:=Du w k;rw[pq _ k,hb,if_neg Bool.false_ne_true]at s1;split at s1
      ·cases s1
      ·obtain⟨_,_,s⟩:=Option.map_eq_some_iff.mp s1
       cases s
    subst u;unfold IY;rw[n]
   ·cases a
 cases g:IY l with
 |some t=>exact(d t g).symm
 |none=>
  cases p:(bE l).bind ik with
  |none=>rfl
  |some t=>rw[b t p]at g;cases g
end Go.Proofs.YtdifpeaklamhnaaGreatDoor
