import Derived.Test.YtdifpeaklamhnaaGreatDoorBaBZ
import Derived.Test.YtdifpeaklamhnaaGreatDoorWkFZ
set_option linter.unusedVariables false
set_option linter.unusedSimpArgs false
set_option maxRecDepth 100000
set_option maxHeartbeats 0
namespace Go.Proofs.YtdifpeaklamhnaaGreatDoor
open Go.Proofs.Tryz
open Go.RowKit
open World (size_alloc)
open Below (refl)
open List (getElem?_eq_getElem drop_eq_getElem_cons drop_of_length_le)
open Nat (zero_le)
abbrev dV:=Bs × Bs × Int
def fF(c:dV):Int:=match c.2.1 with
 | [x]=>gL x.toNat
 |_=>0
theorem mQ(c:dV)(w:World):Calls prog 245 #[.agg #[.string (aa c.1),.string (aa c.2.1),.int .i64 c.2.2]] w λe w'=>e=.returned (.int .i64 (fF c))/\Below w.heap.size w w':=by
 obtain⟨n,t,d⟩:=c;have b:=ae w (.cells #[.string (aa n),.string (aa t),.int .i64 d] 50);have a:(aa t).size=t.length:=aF t
 match t,a with
 | [],a=>
  have g:aa ([]:Bs)=⟨#[]⟩:=rfl;simp only[g]at b ⊢;go_enter Tryz.func245,Tryz.ntmps245
  go_wp2_with fail
  go_ret;exact⟨rfl,b⟩
 | [x],a=>
  have g:aa [x]=⟨#[x]⟩:=rfl;have j:=λy:World=>xA (x.toNat:Int) y;have f:Hid (fF (n,[x],d)=gL x.toNat):=rfl;simp only[g]at b a ⊢;go_enter Tryz.func245,Tryz.ntmps245
  go_wp2_with(go_at_call 241;refine(j _).mono ?_;rintro e w2 ⟨rfl,rfl⟩)
  go_ret;exact⟨by rw[f.out];rfl,b⟩
 |x::y::r,a=>
  have f:Hid (fF (n,x::y::r,d)=0):=rfl;have h:((((aa (x::y::r)).size:Nat):Int)==1)=false:=by
   rw[a];simp;omega
  obtain⟨t,i⟩:∃t,t=aa (x::y::r):=⟨_,rfl⟩;simp only[<-i]at b h ⊢;clear a i;go_enter Tryz.func245,Tryz.ntmps245
  go_wp2_with fail
  go_ret;exact⟨by rw[f.out];rfl,b⟩
def kH(c:dV):Bool:=aS c.1&& !(fF c==0)&&decide (1<=c.2.2)&&decide (c.2.2<=1000000)
theorem Ay(c:dV)(w:World)(q:c.1.length<=maxLen):Calls prog 293 #[.agg #[.string (aa c.1),.string (aa c.2.1),.int .i64 c.2.2]] w λe w'=>e=.returned (.bool (kH c))/\Below w.heap.size w w':=by
 have j:=λy:World=>mQ c y;have f:Hid (kH c=(aS c.1&& !(fF c==0)&&decide (1<=c.2.2)&&decide (c.2.2<=1000000))):=rfl;obtain⟨ty,h⟩:∃t,t=fF c:=⟨_,rfl⟩;rw[<-h]at f;simp only[<-h]at j;clear h;obtain⟨n,t,d⟩:=c;simp only at j f q ⊢;have s:(aa n).size<=maxLen:=by rw[aF];exact q
 have b:=ae w (.cells #[.string (aa n),.string (aa t),.int .i64 d] 50);have o:=heap_alloc_new w (.cells #[.string (aa n),.string (aa t),.int .i64 d] 50);have k:∀y:World,Calls prog 171 #[.string (aa n)] y λe w'=>e=.returned (.bool (aS n))/\w'=y:=by
  intro y;have:=kI (aa n) y s;rw[aj]at this;exact this
 obtain⟨a,m⟩:∃a,a=aS n:=⟨_,rfl⟩;rw[<-m]at f;simp only[<-m]at k;clear m
 cases a
 ·go_enter Tryz.func293,Tryz.ntmps293
  go_wp2_with(go_at_call 171;refine(k _).mono ?_;rintro e w2 ⟨rfl,rfl⟩)
  go_ret;exact⟨by rw[f.out];rfl,b⟩
 ·cases i:(ty==0)
  ·rw[i]at f;have l:(ty != 0)=true:=by rw[bne,i];rfl
   clear i;by_cases p:1<=d
   ·have g:decide (1<=d)=true:=by simpa using p
    rw[g]at f;go_enter Tryz.func293,Tryz.ntmps293
    go_wp2_with(first
     |(go_at_call 171;refine(k _).mono ?_;rintro e w2 ⟨rfl,rfl⟩)
     |(go_at_call 245;refine(j _).mono ?_;rintro e r ⟨rfl,hb3⟩;obtain⟨⟨a0,a1,a2⟩,_⟩:=nG ((hb3.block _ (by simp[size_alloc])).trans o)))
    go_ret;exact⟨by rw[f.out];simp,b.trans (hb3.mono b.size)⟩
   ·have g:decide (1<=d)=false:=by simpa using p
    rw[g]at f;go_enter Tryz.func293,Tryz.ntmps293
    go_wp2_with(first
     |(go_at_call 171;refine(k _).mono ?_;rintro e w2 ⟨rfl,rfl⟩)
     |(go_at_call 245;refine(j _).mono ?_;rintro e r ⟨rfl,hb3⟩;obtain⟨⟨a0,a1,a2⟩,_⟩:=nG ((hb3.block _ (by simp[size_alloc])).trans o)))
    go_ret;exact⟨by rw[f.out];rfl,b.trans (hb3.mono b.size)⟩
  ·rw[i]at f;have l:(ty != 0)=false:=by rw[bne,i];rfl
   clear i;go_enter Tryz.func293,Tryz.ntmps293
   go_wp2_with(first
    |(go_at_call 171;refine(k _).mono ?_;rintro e w2 ⟨rfl,rfl⟩)
    |(go_at_call 245;refine(j _).mono ?_;rintro e r ⟨rfl,hb3⟩;obtain⟨⟨a0,a1,a2⟩,_⟩:=nG ((hb3.block _ (by simp[size_alloc])).trans o)))
   go_ret;exact⟨by rw[f.out];rfl,b.trans (hb3.mono b.size)⟩
def dX(w:World)(v:Value)(cs:List dV):Prop:=∃ao cap,v=.slice ao cs.length cap/\cs.length<=cap/\cs.length<=maxLen/\(cs= []\/∃b off,ao=some ⟨b,off,none⟩/\b<w.heap.size/\∀(i:Nat) (c:dV),cs[i]? =some c->
 (w.cell? ⟨b,off+i*3,none⟩=some (.string (aa c.1))/\w.cell? ⟨b,off+i*3+1,none⟩=some (.string (aa c.2.1))/\w.cell? ⟨b,off+i*3+2,none⟩=some (.int .i64 c.2.2))/\c.1.length<=maxLen/\c.2.1.length<=maxLen)
theorem dX.ah{w x:World}{v:Value}{cs:List dV}(h:dX w v cs)(hb:Below w.heap.size w x):dX x v cs:=by
 obtain⟨j,cap,l,g,m,n⟩:=h;refine⟨j,cap,l,g,m, ?_⟩;rcases n with h|⟨b,off,e,hl,hc⟩
 ·exact .inl h
 ·refine .inr ⟨b,off,e,by have:=hb.size;omega,λi f o=> ?_⟩;obtain⟨⟨a,k,c⟩,d⟩:=hc i f o;exact⟨⟨(hb.cell (p:=⟨b,_,none⟩) hl).trans a,(hb.cell (p:=⟨b,_,none⟩) hl).trans k,(hb.cell (p:=⟨b,_,none⟩) hl).trans c⟩,d⟩
def il(l:Bs)(cs:List dV):Bool:=cs.any λc=>c.1==l
theorem Mc(w:World)(a:Nat)(c:dV)(l:Bs)(b:a<w.heap.size)(f:w.cell? ⟨a,0,none⟩=some (.string (aa l))):
  Calls prog 292 #[.agg #[.string (aa c.1),.string (aa c.2.1),.int .i64 c.2.2],.pointer (some ⟨a,0,none⟩)] w λe w'=>e=.returned (.bool (c.1==l))/\Below w.heap.size w w':=by
 have d:Hid ((c.1==l)=((aa c.1).toList==(aa l).toList)):=by rw[Hid,aj,aj]
 have hb:=ae w (.cells #[.string (aa c.1),.string (aa c.2.1),.int .i64 c.2.2] 50);have g:=(hb.cell (p:=⟨a,0,none⟩) b).trans f;go_enter Tryz.func292,Tryz.ntmps292;go_upto_region 1 with fail
 first
  |(go_region;go_wp2_with fail;go_ret;exact⟨by rw[d.out];rfl,hb.drew⟩)
  |(go_wp2_with fail;go_ret;exact⟨by rw[d.out];rfl,hb⟩)
theorem um(w:World)(v:Value)(cs:List dV)(m:Nat)(l:Bs)(h:dX w v cs)(u:m<w.heap.size)(I:w.cell? ⟨m,0,none⟩=some (.string (aa l))):
  Calls prog 333 #[v,.func (Fn.func 292) #[] #[.pointer (some ⟨m,0,none⟩)]] w λe w'=>(∃k:Int,e=.returned (.int .i64 k)/\decide (0<=k)=il l cs)/\Below w.heap.size w w':=by
 obtain⟨F,cap,rfl,_,H,y⟩:=h;unfold maxLen at H;go_enter Tryz.func333,Tryz.ntmps333
 go_wp2_with fail
 go_loopw [8] (λz M=>∃i:Nat,i<=cs.length/\z=.int .i64 i/\Below w.heap.size w M/\Hid (il l cs=il l (cs.drop i))) (λz _=>cs.length- (intOf z).toNat)
 case atStart=>exact⟨0,zero_le _,rfl,refl _ _,rfl⟩
 case round=>
  obtain⟨i,N,rfl,f,r⟩:=hrel;have q:=f.size;by_cases g:i<cs.length
  ·obtain⟨b,a,rfl,hb,A⟩:∃b a,F=some ⟨b,a,none⟩/\b<w.heap.size/\∀(i:Nat) (c:dV),cs[i]? =some c->(w.cell? ⟨b,a+i*3,none⟩=some (.string (aa c.1))/\w.cell? ⟨b,a+i*3+1,none⟩=some (.string (aa c.2.1))/\w.cell? ⟨b,a+i*3+2,none⟩=some (.int .i64 c.2.2))/\c.1.length<=maxLen/\c.2.1.length<=maxLen:=by
    rcases y with h|h
    ·subst h;simp at g
    ·exact h
   obtain⟨⟨C,D,E⟩,_⟩:=A i cs[i] (getElem?_eq_getElem g);have J:=(f.cell (p:=⟨b,a+i*3,none⟩) hb).trans C;have K:=(f.cell (p:=⟨b,a+i*3+1,none⟩) hb).trans D;have L:=(f.cell (p:=⟨b,a+i*3+2,none⟩) hb).trans E;have j:Hid (il l cs=((cs[i].1==l)||il l (cs.drop (i+1)))):=by rw[Hid,r.out,drop_eq_getElem_cons g];rfl
   have t:=(f.cell (p:=⟨m,0,none⟩) u).trans I;obtain⟨c,o⟩:∃c,c=cs[i]:=⟨_,rfl⟩;rw[<-o]at J K L j;have x:m<wr.heap.size:=by omega
   have G:b<wr.heap.size:=by omega
   have s:=Mc wr m c l x t;clear A y o r C D E;obtain⟨d,B⟩:∃d,d=(c.1==l):=⟨_,rfl⟩;rw[<-B]at s j;clear B
   cases d with
   |false=>
    have n:Hid (il l cs=il l (cs.drop (i+1))):=by rw[Hid,j.out];rfl
    clear j
    go_wp2_with(go_at_call 292;refine s.mono ?_;rintro e w2 ⟨rfl,hb2⟩)
    go_roundw
    case rel=>exact⟨i+1,by omega,by go_num,f.trans (hb2.mono q),n⟩
    case measure=>simp[intOf];omega
   |true=>
    have n:Hid (il l cs=true):=by rw[Hid,j.out];rfl
    clear j
    go_wp2_with(go_at_call 292;refine s.mono ?_;rintro e w2 ⟨rfl,hb2⟩)
    go_ret;exact⟨⟨_,rfl,by rw[n.out];simp⟩,f.trans (hb2.mono q)⟩
  ·have n:Hid (il l cs=false):=by rw[Hid,r.out,drop_of_length_le (by omega)];rfl
   clear r y
   go_wp2_with fail
   go_ret;exact⟨⟨_,rfl,by rw[n.out];rfl⟩,f⟩
theorem qG(w:World)(v:Value)(cs:List dV)(a:Nat)(l:Bs)(h:dX w v cs)(b:a<w.heap.size)(d:w.cell? ⟨a,0,none⟩=some (.string (aa l))):
  Calls prog 294 #[v,.func (Fn.func 292) #[] #[.pointer (some ⟨a,0,none⟩)]] w λe w'=>e=.returned (.bool (il l cs))/\Below w.heap.size w w':=by
 have c:=um w v cs a l h b d;go_enter Tryz.func294,Tryz.ntmps294
 go_wp2_with(go_at_call 333;refine c.mono ?_;rintro e w2 ⟨⟨i,rfl,hi⟩,hb2⟩)
 go_ret;exact⟨rfl,hb2⟩
def bS(prev:List dV):List dV->Bool
 | []=>true
 |c::r=>kH c&& !il c.1 prev&&bS (prev++ [c]) r
def bL(cs:List dV):Bool:= !(decide (cs.length<1)||decide (4<cs.length))&&bS [] cs
theorem dX.take{w:World}{a:Option Addr}{n cap:Nat}{cs:List dV}(h:dX w (.slice a n cap) cs)(i:Nat)(q:i<=cs.length):dX w (.slice a i cap) (cs.take i):=by
 obtain⟨k,g,e,o,p,l⟩:=h
 cases e;have m:(cs.take i).length=i:=by rw[List.length_take];omega
 refine⟨a,cap,by rw[m],by omega,by omega, ?_⟩;rcases l with h|⟨b,off,e,hlt,hc⟩
 ·subst h;exact .inl (by simp)
 ·exact .inr ⟨b,off,e,hlt,λj c d=>hc j c (by
   have f:j<i:=by have:=(List.getElem?_eq_some_iff.mp d).1;omega
   rw[List.getElem?_take_of_lt f]at d;exact d)⟩
theorem yx(w:World)(v:Value)(cs:List dV)(h:dX w v cs):
  Calls prog 243 #[v] w λe w'=>e=.returned (.bool (bL cs))/\Below w.heap.size w w':=by
 have E:=h;obtain⟨O,cap,rfl,K,R,H⟩:=h;unfold maxLen at R;by_cases C:cs.length<1
 ·have n:Hid (bL cs=false):=by rw[Hid,bL,decide_eq_true C];rfl
  have Q:decide ((cs.length:Int)<1)=true:=decide_eq_true (by omega);clear H E;go_enter Tryz.func243,Tryz.ntmps243
  go_wp2_with fail
  go_ret;exact⟨by rw[n.out];rfl,refl _ _⟩
 ·have Q:decide ((cs.length:Int)<1)=false:=decide_eq_false (by omega);by_cases J:4<cs.length
  ·have n:Hid (bL cs=false):=by rw[Hid,bL,decide_eq_true J];simp
   have G:decide ((4:Int)<(cs.length:Int))=true:=decide_eq_true (by omega);clear H E;go_enter Tryz.func243,Tryz.ntmps243
   go_wp2_with fail
   go_ret;exact⟨by rw[n.out];rfl,refl _ _⟩
  ·have G:decide ((4:Int)<(cs.length:Int))=false:=decide_eq_false (by omega);have n:Hid (bL cs=bS (cs.take 0) (cs.drop 0)):=by rw[Hid,bL,decide_eq_false C,decide_eq_false J];simp
   obtain⟨b,a,rfl,hb,F⟩:∃b a,O=some ⟨b,a,none⟩/\b<w.heap.size/\∀(i:Nat) (c:dV),cs[i]? =some c->(w.cell? ⟨b,a+i*3,none⟩=some (.string (aa c.1))/\w.cell? ⟨b,a+i*3+1,none⟩=some (.string (aa c.2.1))/\w.cell? ⟨b,a+i*3+2,none⟩=some (.int .i64 c.2.2))/\c.1.length<=maxLen/\c.2.1.length<=maxLen:=by
    rcases H with h|h
    ·subst h;simp at C
    ·exact h
   go_enter Tryz.func243,Tryz.ntmps243
   go_wp2_with fail
   go_loopw [16] (λI Z=>∃i:Nat,i<=cs.length/\I=.int .i64 i/\Below w.heap.size w Z/\Hid (bL cs=bS (cs.take i) (cs.drop i))) (λI _=>cs.length- (intOf I).toNat)
   case atStart=>exact⟨0,zero_le _,rfl,refl _ _,n⟩
   case round=>
    obtain⟨i,hi,rfl,f,z⟩:=hrel;have k:=f.size;by_cases q:i<cs.length
    ·obtain⟨⟨L,M,N⟩,u,_⟩:=F i cs[i] (getElem?_eq_getElem q);have V:=(f.cell (p:=⟨b,a+i*3,none⟩) hb).trans L;have W:=(f.cell (p:=⟨b,a+i*3+1,none⟩) hb).trans M;have X:=(f.cell (p:=⟨b,a+i*3+2,none⟩) hb).trans N;have d:Hid (bL cs=(kH cs[i]&& !il cs[i].1 (cs.take i)&&bS (cs.take (i+1)) (cs.drop (i+1)))):=by
      rw[Hid,z.out,drop_eq_getElem_cons q,bS,List.take_succ_eq_append_getElem q]
     obtain⟨c,t⟩:∃c,c=cs[i]:=⟨_,rfl⟩;rw[<-t]at V W X d u;have P:b<wr.heap.size:=by omega
     have g:=ae wr (.cells #[.string (aa c.1),.string (aa c.2.1),.int .i64 c.2.2] 50);have T:=heap_alloc_new wr (.cells #[.string (aa c.1),.string (aa c.2.1),.int .i64 c.2.2] 50);have s:=Ay c (wr.alloc (.cells #[.string (aa c.1),.string (aa c.2.1),.int .i64 c.2.2] 50)) u;have A:=λ(x:World) (y:Below w.heap.size w x)=>(E.ah y).take i (by omega);clear F z L M N t n
     cases j:kH c with
     |false=>
      have m:Hid (bL cs=false):=by rw[Hid,d.out,j];rfl
      rw[j]at s;clear d A
      go_wp2_with(go_at_call 293;refine s.mono ?_;rintro e w2 ⟨rfl,hb2⟩)
      go_ret;exact⟨by rw[m.out];rfl,(f.trans (g.mono k)).trans (hb2.mono (by rw[size_alloc];omega))⟩
     |true=>
      rw[j]at s d;have B:∀x:World,Below (wr.alloc (.cells #[.string (aa c.1),.string (aa c.2.1),.int .i64 c.2.2] 50)).heap.size (wr.alloc (.cells #[.string (aa c.1),.string (aa c.2.1),.int .i64 c.2.2] 50)) x->Calls prog 294 #[.slice (some ⟨b,a,none⟩) i cap,.func (Fn.func 292) #[] #[.pointer (some ⟨wr.heap.size,0,none⟩)]] x λe w'=>e=.returned (.bool (il c.1 (cs.take i)))/\Below x.heap.size x w':=by
       intro x y;have D:Below w.heap.size w x:=(f.trans (g.mono k)).trans (y.mono (by rw[size_alloc];omega));have S:=y.size;rw[size_alloc]at S;exact qG x _ _ wr.heap.size c.1 (A x D) (by omega) ((ag ((y.block wr.heap.size (by rw[size_alloc];omega)).trans T)).trans rfl)
      obtain⟨U,o⟩:∃l,l=il c.1 (cs.take i):=⟨_,rfl⟩;rw[<-o]at d;simp only[<-o]at B;clear o A j
      cases U with
      |true=>
       have m:Hid (bL cs=false):=by rw[Hid,d.out];rfl
       clear d
       go_wp2_with(first
        |(go_at_call 293;refine s.mono ?_;rintro e w2 ⟨rfl,hb2⟩)
        |(go_at_call 294;refine(B _ hb2).mono ?_;rintro e Y ⟨rfl,hb3⟩))
       go_ret;have r:=hb2.size;rw[size_alloc]at r;exact⟨by rw[m.out];rfl,((f.trans (g.mono k)).trans (hb2.mono (by rw[size_alloc];omega))).trans (hb3.mono (by omega))⟩
      |false=>
       have m:Hid (bL cs=bS (cs.take (i+1)) (cs.drop (i+1))):=by rw[Hid,d.out];rfl
       clear d
       go_wp2_with(first
        |(go_at_call 293;refine s.mono ?_;rintro e w2 ⟨rfl,hb2⟩)
        |(go_at_call 294;refine(B _ hb2).mono ?_;rintro e Y ⟨rfl,hb3⟩))
       have r:=hb2.size;rw[size_alloc]at r;go_roundw
       case rel=>exact⟨i+1,by omega,by go_num,((f.trans (g.mono k)).trans (hb2.mono (by rw[size_alloc];omega))).trans (hb3.mono (by omega)),m⟩
       case measure=>simp[intOf];omega
    ·have m:Hid (bL cs=true):=by rw[Hid,z.out,drop_of_length_le (by omega)];rfl
     clear z F n
     go_wp2_with fail
     go_ret;exact⟨by rw[m.out];rfl,f⟩
theorem Jd(c:au)(d:dV)(w:World):
  Calls prog 334 #[.agg #[.int .i64 c.1,.int .i64 c.2.1,.string (aa c.2.2)],.agg #[.string (aa d.1),.string (aa d.2.1),.int .i64 d.2.2]] w λe w'=>e=.returned (.bool (bH c (fF d)))/\Below w.heap.size w w':=by
 obtain⟨k,n,l⟩:=c;have h:=λy:World=>mQ d y;obtain⟨t,j⟩:∃t,t=fF d:=⟨_,rfl⟩;simp only[<-j]at h ⊢;clear j;have g:=λy:World=>EM k n l t y;obtain⟨r,i⟩:∃r,r=bH (k,n,l) t:=⟨_,rfl⟩;simp only[<-i]at g ⊢;clear i;have b:=az w (.cells #[.int .i64 k,.int .i64 n,.string (aa l)] 56) (.cells #[.string (aa d.1),.string (aa d.2.1),.int .i64 d.2.2] 50);have m:((w.alloc (.cells #[.int .i64 k,.int .i64 n,.string (aa l)] 56)).alloc (.cells #[.string (aa d.1),.string (aa d.2.1),.int .i64 d.2.2] 50)).heap[w.heap.size]? =some (.cells #[.int .i64 k,.int .i64 n,.string (aa l)] 56):=(Below.heap_alloc _ _ _ (by simp[size_alloc])).trans (heap_alloc_new w _);go_enter Tryz.func334,Tryz.ntmps334;go_upto_region 1 with fail
 go_region_with(first
  |(go_at_call 245;refine(h _).mono ?_;rintro e w2 ⟨rfl,a⟩;replace a:=iA a;have f:=b.trans (a.mono b.size);obtain⟨⟨a0,a1,a2⟩,_⟩:=nG ((a.block _ (by simp[size_alloc];omega)).trans m))
  |(go_at_call 125;refine(g _).mono ?_;rintro e o ⟨rfl,hb3⟩))
 all_goals(go_wp2_with fail;go_ret)
 all_goals exact⟨rfl,f.trans (hb3.mono f.size)⟩
def gz:List au->List dV->Bool
 | [],[]=>true
 |c::cs,d::ds=>bH c (fF d)&&gz cs ds
 |_,_=>false
theorem zL:∀(cs:List au) (a:List dV),cs.length≠a.length->gz cs a=false
 | [],[],h=>absurd rfl h
 | [],_::_,_=>rfl
 |_::_,[],_=>rfl
 |c::cs,d::a,h=>by rw[gz,zL cs a (by simpa using h)];simp
theorem vV(w:World)(U v2:Value)(cs:List au)(a:List dV)(V:aR w U cs)(W:dX w v2 a):
  Calls prog 335 #[U,v2,.func (Fn.func 334) #[] #[]] w λe w'=>e=.returned (.bool (gz cs a))/\Below w.heap.size w w':=by
 obtain⟨a1,c1,rfl,l1,r1⟩:=V;obtain⟨a2,c2,rfl,_,l2,r2⟩:=W;unfold maxLen at l1 l2;by_cases g:cs.length=a.length
 ·obtain⟨m,B⟩:∃m,m=cs.length:=⟨_,rfl⟩;have t:Hid (cs.length=m):=B.symm;have u:Hid (a.length=m):=by rw[Hid,<-g,B]
  rw[<-g,<-B];rw[<-B]at l1;clear g B l2;go_enter Tryz.func335,Tryz.ntmps335
  go_wp2_with fail
  go_loopw [17] (λG wx=>∃i:Nat,i<=m/\G=.int .i64 i/\Below w.heap.size w wx/\Hid (gz cs a=gz (cs.drop i) (a.drop i))) (λG _=>m- (intOf G).toNat)
  case atStart=>exact⟨0,zero_le _,rfl,refl _ _,rfl⟩
  case round=>
   obtain⟨i,hi,rfl,k,D⟩:=hrel;have C:=k.size;by_cases N:i<m
   ·have l:i<cs.length:=by have:=t.out;omega
    have j:i<a.length:=by have:=u.out;omega
    obtain⟨b1,H,rfl,q,v⟩:∃b f,a1=some ⟨b,f,none⟩/\b<w.heap.size/\∀(i:Nat) (c:au),cs[i]? =some c->w.cell? ⟨b,f+i*3,none⟩=some (.int .i64 c.1)/\w.cell? ⟨b,f+i*3+1,none⟩=some (.int .i64 c.2.1)/\w.cell? ⟨b,f+i*3+2,none⟩=some (.string (aa c.2.2)):=by
     rcases r1 with h|h
     ·subst h;simp at l
     ·exact h
    obtain⟨b2,I,rfl,r,y⟩:∃b f,a2=some ⟨b,f,none⟩/\b<w.heap.size/\∀(i:Nat) (c:dV),a[i]? =some c->(w.cell? ⟨b,f+i*3,none⟩=some (.string (aa c.1))/\w.cell? ⟨b,f+i*3+1,none⟩=some (.string (aa c.2.1))/\w.cell? ⟨b,f+i*3+2,none⟩=some (.int .i64 c.2.2))/\c.1.length<=maxLen/\c.2.1.length<=maxLen:=by
     rcases r2 with h|h
     ·subst h;simp at j
     ·exact h
    obtain⟨O,P,Q⟩:=v i cs[i] (getElem?_eq_getElem l);obtain⟨⟨R,S,T⟩, -⟩:=y i a[i] (getElem?_eq_getElem j);have Y:=(k.cell (p:=⟨b1,H+i*3,none⟩) q).trans O;have Z:=(k.cell (p:=⟨b1,H+i*3+1,none⟩) q).trans P;have q2:=(k.cell (p:=⟨b1,H+i*3+2,none⟩) q).trans Q;have q3:=(k.cell (p:=⟨b2,I+i*3,none⟩) r).trans R;have q4:=(k.cell (p:=⟨b2,I+i*3+1,none⟩) r).trans S;have q5:=(k.cell (p:=⟨b2,I+i*3+2,none⟩) r).trans T;have n:Hid (gz cs a=(bH cs[i] (fF a[i])&&gz (cs.drop (i+1)) (a.drop (i+1)))):=by
     rw[Hid,D.out,drop_eq_getElem_cons l,drop_eq_getElem_cons j,gz]
    obtain⟨J,z⟩:∃c,c=cs[i]:=⟨_,rfl⟩;obtain⟨K,A⟩:∃d,d=a[i]:=⟨_,rfl⟩;rw[<-z]at Y Z q2 n;rw[<-A]at q3 q4 q5 n;have E:=λx:World=>Jd J K x;obtain⟨d,F⟩:∃d,d=bH J (fF K):=⟨_,rfl⟩;rw[<-F]at n;simp only[<-F]at E;have L:b1<wr.heap.size:=by omega
    have M:b2<wr.heap.size:=by omega
    clear D v y r1 r2 O P Q R S T z A F l j
    cases d
    ·have o:Hid (gz cs a=false):=by rw[Hid,n.out];rfl
     clear n
     go_wp2_with(go_at_call 334;refine(E _).mono ?_;rintro e w2 ⟨rfl,hb2'⟩)
     go_ret;have s:Below wr.heap.size wr w2:=by
      first|exact(az wr _ _).trans (hb2'.mono (by simp[size_alloc];omega))|exact(ae wr _).trans (hb2'.mono (by simp[size_alloc]))|exact hb2'
     exact⟨ax o.out.symm,k.trans (s.mono C)⟩
    ·have o:Hid (gz cs a=gz (cs.drop (i+1)) (a.drop (i+1))):=by rw[Hid,n.out];rfl
     clear n
     go_wp2_with(go_at_call 334;refine(E _).mono ?_;rintro e w2 ⟨rfl,hb2'⟩)
     have s:Below wr.heap.size wr w2:=by
      first|exact(az wr _ _).trans (hb2'.mono (by simp[size_alloc];omega))|exact(ae wr _).trans (hb2'.mono (by simp[size_alloc]))|exact hb2'
     go_roundw
     case rel=>exact⟨i+1,by omega,by go_num,k.trans (s.mono C),o⟩
     case measure=>simp[intOf];omega
   ·have o:Hid (gz cs a=true):=by rw[Hid,D.out,drop_of_length_le (by have:=t.out;omega),drop_of_length_le (by have:=u.out;omega)];rfl
    clear D r1 r2
    go_wp2_with fail
    go_ret;exact⟨ax o.out.symm,k⟩
 ·have X:((cs.length:Int)==(a.length:Int))=false:=by simp;omega
  have o:Hid (gz cs a=false):=zL cs a g;clear r1 r2;go_enter Tryz.func335,Tryz.ntmps335
  go_wp2_with fail
  go_ret;exact⟨ax o.out.symm,refl _ _⟩
theorem LQ(w:World)(b v2:Value)(cs:List au)(a:List dV)(c:aR w b cs)(d:dX w v2 a):
  Calls prog 295 #[b,v2] w λe w'=>e=.returned (.bool (gz cs a))/\Below w.heap.size w w':=by
 have f:=vV w b v2 cs a c d;obtain⟨a1,g,rfl,_,_⟩:=c;obtain⟨a2,h,rfl,_,_,_⟩:=d;go_enter Tryz.func295,Tryz.ntmps295
 go_wp2_with(go_at_call 335;refine f.mono ?_;rintro e w2 ⟨rfl,hb2⟩)
 go_ret;exact⟨rfl,hb2⟩
def RowsIn(w:World)(v:Value)(rs:List (List au)):Prop:=∃ao cap,v=.slice ao rs.length cap/\rs.length<=maxLen/\(rs= []\/∃b off,ao=some ⟨b,off,none⟩/\b<w.heap.size/\∀(i:Nat) (r:List au),rs[i]? =some r->∃ro rn rc,w.cell? ⟨b,off+i,none⟩=some (.slice ro rn rc)/\aR w (.slice ro rn rc) r)
theorem RowsIn.ah{w x:World}{v:Value}{d:List (List au)}(h:RowsIn w v d)(hb:Below w.heap.size w x):RowsIn x v d:=by
 obtain⟨f,cap,g,j,k⟩:=h;refine⟨f,cap,g,j, ?_⟩;rcases k with h|⟨b,off,e,hl,hc⟩
 ·exact .inl h
 ·refine .inr ⟨b,off,e,by have:=hb.size;omega,λi r l=> ?_⟩;obtain⟨ro,rn,rc,a,c⟩:=hc i r l;exact⟨ro,rn,rc,(hb.cell (p:=⟨b,_,none⟩) hl).trans a,c.ah hb⟩
def fq(rs:List (List au))(ds:List dV):Bool:= !decide (10<rs.length)&&rs.all λr=>gz r ds
theorem Ei(w:World)(v:Value)(m:Option Addr)(B A:Nat)(a:List (List au))(c:List dV)(G:RowsIn w v a)(t:dX w (.slice m B A) c):
  Calls prog 244 #[v,.slice m B A] w λe w'=>e=.returned (.bool (fq a c))/\Below w.heap.size w w':=by
 obtain⟨F,cap,rfl,J,u⟩:=G;unfold maxLen at J;by_cases n:10<a.length
 ·have I:decide ((10:Int)<(a.length:Int))=true:=decide_eq_true (by omega);have g:Hid (fq a c=false):=by rw[Hid,fq,decide_eq_true n];rfl
  clear u t;go_enter Tryz.func244,Tryz.ntmps244
  go_wp2_with fail
  go_ret;exact⟨by rw[g.out];rfl,refl _ _⟩
 ·have I:decide ((10:Int)<(a.length:Int))=false:=decide_eq_false (by omega);have y:Hid (fq a c=(a.drop 0).all λr=>gz r c):=by rw[Hid,fq,decide_eq_false n];simp
  go_enter Tryz.func244,Tryz.ntmps244
  go_wp2_with fail
  go_loopw [12] (λz K=>∃i:Nat,i<=a.length/\z=.int .i64 i/\Below w.heap.size w K/\Hid (fq a c=(a.drop i).all λr=>gz r c)) (λz _=>a.length- (intOf z).toNat)
  case atStart=>exact⟨0,zero_le _,rfl,refl _ _,y⟩
  case round=>
   obtain⟨i,L,rfl,j,s⟩:=hrel;have q:=j.size;by_cases k:i<a.length
   ·obtain⟨b,f,rfl,hb,C⟩:∃b f,F=some ⟨b,f,none⟩/\b<w.heap.size/\∀(i:Nat) (r:List au),a[i]? =some r->∃ro rn rc,w.cell? ⟨b,f+i,none⟩=some (.slice ro rn rc)/\aR w (.slice ro rn rc) r:=by
     rcases u with h|h
     ·subst h;simp at k
     ·exact h
    obtain⟨ro,rn,rc,E,D⟩:=C i a[i] (getElem?_eq_getElem k);have M:=(j.cell (p:=⟨b,f+i,none⟩) hb).trans E;have l:Hid (fq a c=(gz a[i] c&&(a.drop (i+1)).all λr=>gz r c)):=by rw[Hid,s.out,drop_eq_getElem_cons k];rfl
    have x:=LQ wr _ _ a[i] c (D.ah j) (t.ah j);obtain⟨d,o⟩:∃d,d=gz a[i] c:=⟨_,rfl⟩;rw[<-o]at l x;have H:b<wr.heap.size:=by omega
    clear s C u E o D y t
    cases d
    ·have g:Hid (fq a c=false):=by rw[Hid,l.out];rfl
     clear l
     go_wp2_with(go_at_call 295;refine x.mono ?_;rintro e w2 ⟨rfl,hb2⟩)
     go_ret;exact⟨by rw[g.out];rfl,j.trans (hb2.mono q)⟩
    ·have g:Hid (fq a c=(a.drop (i+1)).all λr=>gz r c):=by rw[Hid,l.out];rfl
     clear l
     go_wp2_with(go_at_call 295;refine x.mono ?_;rintro e w2 ⟨rfl,hb2⟩)
     go_roundw
     case rel=>exact⟨i+1,by omega,by go_num,j.trans (hb2.mono q),g⟩
     case measure=>simp[intOf];omega
   ·have g:Hid (fq a c=true):=by rw[Hid,s.out,drop_of_length_le (by omega)];rfl
    clear s u y t
    go_wp2_with fail
    go_ret;exact⟨by rw[g.out];rfl,j⟩
structure aT where
 name:Bs
 ay:List dV
 rows:List (List au)
 count:Int
 aG:Bs
 lX:List Bs
def cu(t:aT):Bool:=bL t.ay&&decide (0<=t.count)&&decide (t.count<=1000000)&&fq t.rows t.ay
theorem Fa(w:World)(t:aT)(co:Option Addr)(cn cc:Nat)(ro:Option Addr)(rn rc:Nat)(uo:Option Addr)(un uc:Nat)(k:dX w (.slice co cn cc) t.ay)(p:RowsIn w (.slice ro rn rc) t.rows):
  Calls prog 188 #[.agg #[.string (aa t.name),.slice co cn cc,.slice ro rn rc,.int .i64 t.count,.string (aa t.aG),.slice uo un uc]] w λe w'=>e=.returned (.bool (cu t))/\Below w.heap.size w w':=by
 have g:=ae w (.cells #[.string (aa t.name),.slice co cn cc,.slice ro rn rc,.int .i64 t.count,.string (aa t.aG),.slice uo un uc] 54);have r:=heap_alloc_new w (.cells #[.string (aa t.name),.slice co cn cc,.slice ro rn rc,.int .i64 t.count,.string (aa t.aG),.slice uo un uc] 54);have i:=yx _ _ t.ay (k.ah g);have j:=λ(x:World) (q:Below w.heap.size w x)=>Ei x _ co cn cc t.rows t.ay (p.ah q) (k.ah q);have d:Hid (cu t=(bL t.ay&&decide (0<=t.count)&&decide (t.count<=1000000)&&fq t.rows t.ay)):=rfl;obtain⟨a,o⟩:∃a,a=bL t.ay:=⟨_,rfl⟩;obtain⟨b,hb⟩:∃b,b=fq t.rows t.ay:=⟨_,rfl⟩;rw[<-o]at i d;rw[<-hb]at d;simp only[<-hb]at j;clear o hb k p;have f:∀w2:World,Below (w.alloc (.cells #[.string (aa t.name),.slice co cn cc,.slice ro rn rc,.int .i64 t.count,.string (aa t.aG),.slice uo un uc] 54)).heap.size (w.alloc (.cells #[.string (aa t.name),.slice co cn cc,.slice ro rn rc,.int .i64 t.count,.string (aa t.aG),.slice uo un uc] 54)) w2->(w2.cell? ⟨w.heap.size,1,none⟩=some (.slice co cn cc)/\w2.cell? ⟨w.heap.size,2,none⟩=some (.slice ro rn rc)/\w2.cell? ⟨w.heap.size,3,none⟩=some (.int .i64 t.count))/\Below w.heap.size w w2:=by
  intro w2 h;have l:=(h.block w.heap.size (by simp[size_alloc])).trans r;exact⟨⟨(ag l).trans rfl,(ag l).trans rfl,(ag l).trans rfl⟩,g.trans (h.mono g.size)⟩
 cases a
 ·go_enter Tryz.func188,Tryz.ntmps188
  go_wp2_with(go_at_call 243;refine i.mono ?_;rintro e w2 ⟨rfl,hb2⟩;obtain⟨⟨a1,a2,a3⟩,c⟩:=f w2 hb2)
  go_ret;exact⟨by rw[d.out];rfl,c⟩
 ·by_cases m:0<=t.count
  ·have d0:decide (0<=t.count)=true:=decide_eq_true m;by_cases n:t.count<=1000000
   ·have d1:decide (t.count<=1000000)=true:=decide_eq_true n;rw[d0,d1]at d;go_enter Tryz.func188,Tryz.ntmps188
    go_wp2_with(first
     |(go_at_call 243;refine i.mono ?_;rintro e w2 ⟨rfl,hb2⟩;obtain⟨⟨a1,a2,a3⟩,c⟩:=f w2 hb2)
     |(go_at_call 244;refine(j _ c).mono ?_;rintro e s ⟨rfl,hb3⟩))
    go_ret;exact⟨by rw[d.out];rfl,c.trans (hb3.mono c.size)⟩
   ·have d1:decide (t.count<=1000000)=false:=decide_eq_false n;rw[d0,d1]at d;go_enter Tryz.func188,Tryz.ntmps188
    go_wp2_with(go_at_call 243;refine i.mono ?_;rintro e w2 ⟨rfl,hb2⟩;obtain⟨⟨a1,a2,a3⟩,c⟩:=f w2 hb2)
    go_ret;exact⟨by rw[d.out];rfl,c⟩
  ·have d0:decide (0<=t.count)=false:=decide_eq_false m;rw[d0]at d;go_enter Tryz.func188,Tryz.ntmps188
   go_wp2_with(go_at_call 243;refine i.mono ?_;rintro e w2 ⟨rfl,hb2⟩;obtain⟨⟨a1,a2,a3⟩,c⟩:=f w2 hb2)
   go_ret;exact⟨by rw[d.out];rfl,c⟩
def fD(tb:Bs)(c:dV):Bs × Int:=(tb++ [46]++c.1,fF c)
def dY(ns:List (Bs × Int)):List Value:=ns.flatMap λn=>[Value.string (aa n.1),.int .i64 n.2]
theorem vJ(a b:List (Bs × Int)):dY (a++b)=dY a++dY b:=by simp[dY]
theorem su:∀(ns:List (Bs × Int)) (i:Nat) (n:Bs × Int),ns[i]? =some n->(dY ns)[i*2]? =some (.string (aa n.1))/\(dY ns)[i*2+1]? =some (.int .i64 n.2)
 | [],i,n,h=>by simp at h
 |m::ns,0,n,h=>by simp at h;subst h;simp[dY]
 |m::ns,i+1,n,h=>by
  have:=su ns i n (by simpa using h);have e:dY (m::ns)= [Value.string (aa m.1),.int .i64 m.2]++dY ns:=by simp[dY]
  rw[e];refine⟨?_, ?_⟩
  ·rw[List.getElem?_append_right (by simp;omega),<-this.1];congr 1;simp;omega
  ·rw[List.getElem?_append_right (by simp;omega),<-this.2];congr 1;simp;omega
theorem FI{w:World}{b:Nat}{v:Value}{ns:List (Bs × Int)}(h:w.ownsRow b 380 2 v ns.length (dY ns))(k:ns.length<=1000):iK w v ns:=by
 rcases h.2 with⟨rfl,j⟩|⟨g,cap,d,rfl,m⟩
 ·have:ns= []:=List.length_eq_zero_iff.mp j;subst this;exact⟨_,_,rfl,by simp,.inl rfl⟩
 ·refine⟨_,_,rfl,k,.inr ⟨g,rfl,(h.lt g rfl).2,λi n l=> ?_⟩⟩;obtain⟨e,f⟩:=su ns i n l;have a:=h.cells (g:=g) rfl (i*2) _ e;have c:=h.cells (g:=g) rfl (i*2+1) _ f;rw[Addr.add_lit]at a c;exact⟨by simpa using a,by simpa using c⟩
theorem OA:(Tryz.prog.info? 380).map (λi=>(i.zero,i.size,i.bytes))=some (some (.agg #[.string ⟨#[]⟩,.int .i64 0]),2,24):=by kernel_rfl
theorem sM(x:World)(o:Obj):(x.alloc o).drew.heap[x.heap.size]? =some o:=heap_alloc_new x o
theorem TM(a n:Bs):(aa a++ByteArray.mk #[46])++aa n=aa (a++ [46]++n):=by
 have b:=oq a [46];have c:=oq (a++ [46]) n;have e:ByteArray.mk #[46]=aa [46]:=rfl;rw[e,b,c]
theorem Md(w:World)(a:Bs)(ht:a.length<=1000)(v:Value)(cs:List dV)(h:dX w v cs)(h4:cs.length<=1000)(P:∀c∈cs,c.1.length<=1000):
  Calls prog 189 #[.string (aa a),v] w λe w'=>∃no nn nc,e=.returned (.slice no nn nc)/\iK w' (.slice no nn nc) (cs.map (fD a))/\Below w.heap.size w w':=by
 obtain⟨i0,hi,T,U,V⟩:=info_parts OA;obtain⟨ao,cap,rfl,_,_,S⟩:=h;have a7:(aa a).size<=1000:=by rw[aF];exact ht
 have a4:(ByteArray.mk #[46]).size=1:=rfl;go_enter Tryz.func189,Tryz.ntmps189
 go_wp2_with fail
 go_loopw [5,10] (λkv W wr=>∃(i kn B:Nat) (C:Option Addr),i<=cs.length/\kv=.slice C kn B/\W=.int .i64 i/\wr.ownsRow w.heap.size 380 2 (.slice C kn B) i (dY ((cs.take i).map (fD a)))/\Below w.heap.size w wr) (λ_ W _=>cs.length- (intOf W).toNat)
 case atStart=>exact⟨0,0,0,none,zero_le _,rfl,rfl,World.ownsRow_nil _ _ _ _,refl _ _⟩
 case round=>
  obtain⟨i,kn,B,C,a5,rfl,rfl,f,A⟩:=hrel;have Q:=A.size;by_cases q:i<cs.length
  ·obtain⟨b,j,rfl,hb,Z⟩:∃b j,ao=some ⟨b,j,none⟩/\b<w.heap.size/\∀(i:Nat) (c:dV),cs[i]? =some c->(w.cell? ⟨b,j+i*3,none⟩=some (.string (aa c.1))/\w.cell? ⟨b,j+i*3+1,none⟩=some (.string (aa c.2.1))/\w.cell? ⟨b,j+i*3+2,none⟩=some (.int .i64 c.2.2))/\c.1.length<=maxLen/\c.2.1.length<=maxLen:=by
    rcases S with h|h
    ·subst h;simp at q
    ·exact h
   obtain⟨⟨p0,p1,p2⟩, -⟩:=Z i cs[i] (getElem?_eq_getElem q);have q0:=(A.cell (p:=⟨b,j+i*3,none⟩) hb).trans p0;have q1:=(A.cell (p:=⟨b,j+i*3+1,none⟩) hb).trans p1;have q2:=(A.cell (p:=⟨b,j+i*3+2,none⟩) hb).trans p2;have H:=P cs[i] (List.getElem_mem q);have M:Hid ((cs.take (i+1)).map (fD a)=(cs.take i).map (fD a)++ [fD a cs[i]]):=by rw[Hid,List.take_succ_eq_append_getElem q,List.map_append];rfl
   obtain⟨c,G⟩:∃c,c=cs[i]:=⟨_,rfl⟩;rw[<-G]at q0 q1 q2 H M;have a2:b<wr.heap.size:=by omega
   have X:=λx:World=>mQ c x;have r:Hid (fD a c=(a++ [46]++c.1,fF c)):=rfl;obtain⟨ty,K⟩:∃t,t=fF c:=⟨_,rfl⟩;simp only[<-K]at X r;have a3:(aa c.1).size<=1000:=by rw[aF];exact H
   have y:=TM a c.1;have Y:aa a++ByteArray.mk #[46]=aa (a++ [46]):=oq a [46];have N:(aa (a++ [46])).size<=1001:=by rw[aF];simp;omega
   rw[Y]at y;have g1:¬9223372036854775807<(aa a).size+1:=by omega
   have g2:¬9223372036854775807<(aa (a++ [46])).size+(aa c.1).size:=by omega
   obtain⟨nm,I⟩:∃x,x=a++ [46]++c.1:=⟨_,rfl⟩;obtain⟨t1,J⟩:∃x,x=a++ [46]:=⟨_,rfl⟩;rw[<-I]at y r;rw[<-J]at y Y N g2;clear Z S p0 p1 p2 G K P I J;go_upto_region 5 with fail
   have s:=ae wr (.cells #[.string (aa c.1),.string (aa c.2.1),.int .i64 c.2.2] 50);obtain⟨L,n⟩:∃x,x=wr.alloc (.cells #[.string (aa c.1),.string (aa c.2.1),.int .i64 c.2.2] 50):=⟨_,rfl⟩;rw[<-n]at s ⊢;have kx:L.heap[wr.heap.size]? =some (.cells #[.string (aa c.1),.string (aa c.2.1),.int .i64 c.2.2] 50):=by rw[n];exact heap_alloc_new wr _
   obtain⟨⟨x0,x1,x2⟩,_⟩:=nG kx;have a1:L.heap.size=wr.heap.size+1:=by rw[n];simp
   have D:∀(z:World),Below L.heap.size L z->∀o:Obj,(z.alloc o).drew.ownsRow w.heap.size 380 2 (.slice C kn B) i (dY ((cs.take i).map (fD a))):=λz d o=>
    World.ownsRow.drew (World.ownsRow.alloc (aA f λg hg=>(d.block g (by have:=(f.lt g hg).2;omega)).trans (s.block g (f.lt g hg).2)) o)
   clear n
   go_region_law (first
    |(refine step_append_lies _ rfl (.tmp 14) (.tmp 23) 329 rfl w.heap.size 380 i0 _ 2 24 Tryz.underlying329 hi T U V rfl (by decide) (.slice C kn B) _ (dY ((cs.take i).map (fD a))) (by simp[Act.eval]) (D _ d _) ⟨z.heap.size,0,none⟩ 1 1 [.string (aa nm),.int .i64 ty] (by simp[Act.eval]) rfl (World.news_of_block (sM z _)) (by intro u hu;simp at hu;rcases hu with rfl|rfl<;>rfl) (by decide) (by unfold maxLen;omega) (by omega) (by simp;omega) (z.heap.size+1) (by simp) ?_;intro g9 E w9 m l F a0)
    |(go_simp;go_at_call 245;refine(X _).mono ?_;rintro e' z ⟨rfl,d⟩;replace d:=iA d;have a6:=d.size;obtain⟨⟨y0,y1,y2⟩,_⟩:=nG ((d.block _ (by omega)).trans kx)))
   all_goals
    have R:w9.ownsRow w.heap.size 380 2 (.slice (some ⟨g9,0,none⟩) (i+1) E) (i+1) (dY ((cs.take (i+1)).map (fD a))):=by
     rw[M.out,vJ,r.out];exact m
    have RB:Below w.heap.size w w9:=(((A.trans (s.mono Q)).trans (d.mono (by omega))).alloc (by omega) _).grown l (by rw[size_alloc];omega) (λk hk=>(f.lt k hk).1);clear m l f M F
    go_wp2_with fail
    go_roundw
    case rel=>exact⟨i+1,_,_,_,by omega,rfl,by go_num,R,RB⟩
    case measure=>simp[intOf];omega
  ·have O:i=cs.length:=by omega
   have HI:Hid (iK wr (.slice C kn B) (cs.map (fD a))):=by
    rw[O,List.take_length]at f;exact FI (by rw[List.length_map];exact f) (by rw[List.length_map];exact h4)
   clear f S P
   go_wp2_with fail
   go_ret;exact⟨_,_,_,rfl,HI.out,A⟩
structure fG where
 name:Bs
 co:Option Addr
 cn:Nat
 cc:Nat
 ro:Option Addr
 rn:Nat
 rc:Nat
 count:Int
 aG:Bs
 uo:Option Addr
 un:Nat
 uc:Nat
 sort:Int
 ty:Int
 size:Int
 quiet:Bool
 vk:Int
 vn:Int
 vs:Bs
 place:Int
 head:Bs
 fp:Option Addr
 xo:Option Addr
 xn:Nat
 xc:Nat
abbrev fG.arr(r:fG):Array Value:= #[.string (aa r.name),.slice r.co r.cn r.cc,.slice r.ro r.rn r.rc,.int .i64 r.count,.string (aa r.aG),.slice r.uo r.un r.uc,.int .i64 r.sort,.int .i64 r.ty,.int .i64 r.size,.bool r.quiet,.int .i64 r.vk,.int .i64 r.vn,.string (aa r.vs),.int .i64 r.place,.string (aa r.head),.pointer r.fp,.slice r.xo r.xn r.xc]
abbrev fG.ex(r:fG):List Value:=[.int .i64 r.sort,.int .i64 r.ty,.int .i64 r.size,.bool r.quiet,.int .i64 r.vk,.int .i64 r.vn,.string (aa r.vs),.int .i64 r.place,.string (aa r.head),.pointer r.fp,.slice r.xo r.xn r.xc]
def iX(w:World)(v:Value)(ls:List Bs):Prop:=∃ao cap,v=.slice ao ls.length cap/\ls.length<=maxLen/\(ls= []\/∃b off,ao=some ⟨b,off,none⟩/\b<w.heap.size/\∀(i:Nat) (l:Bs),ls[i]? =some l->w.cell? ⟨b,off+i,none⟩=some (.string (aa l)))
theorem iX.ah{w x:World}{v:Value}{a:List Bs}(h:iX w v a)(hb:Below w.heap.size w x):iX x v a:=by
 obtain⟨c,cap,d,f,g⟩:=h;refine⟨c,cap,d,f, ?_⟩;rcases g with h|⟨b,off,e,hl,hc⟩
 ·exact .inl h
 ·exact .inr ⟨b,off,e,by have:=hb.size;omega,λi l j=>(hb.cell (p:=⟨b,_,none⟩) hl).trans (hc i l j)⟩
structure mH(w:World)(FB:List Nat)(r:fG)(t:aT)(e:Ex):Prop where
 name:r.name=t.name
 count:r.count=t.count
 aG:r.aG=t.aG
 ay:dX w (.slice r.co r.cn r.cc) t.ay
 rows:RowsIn w (.slice r.ro r.rn r.rc) t.rows
 lX:iX w (.slice r.uo r.un r.uc) t.lX
 ex:dG w FB (λ_=>True) r.ex e
theorem mH.ah{w x:World}{a:List Nat}{r:fG}{t:aT}{e:Ex}(h:mH w a r t e)(hb:Below w.heap.size w x):mH x a r t e:=
 ⟨h.name,h.count,h.aG,h.ay.ah hb,h.rows.ah hb,h.lX.ah hb,h.ex.ah hb⟩
def ym(x:World)(b i:Nat)(r:fG):Prop:=x.cell? ⟨b,i*17,none⟩=some (.string (aa r.name))/\x.cell? ⟨b,i*17+1,none⟩=some (.slice r.co r.cn r.cc)/\x.cell? ⟨b,i*17+2,none⟩=some (.slice r.ro r.rn r.rc)/\x.cell? ⟨b,i*17+3,none⟩=some (.int .i64 r.count)/\x.cell? ⟨b,i*17+4,none⟩=some (.string (aa r.aG))/\x.cell? ⟨b,i*17+5,none⟩=some (.slice r.uo r.un r.uc)/\x.cell? ⟨b,i*17+6,none⟩=some (.int .i64 r.sort)/\x.cell? ⟨b,i*17+7,none⟩=some (.int .i64 r.ty)/\x.cell? ⟨b,i*17+8,none⟩=some (.int .i64 r.size)/\x.cell? ⟨b,i*17+9,none⟩=some (.bool r.quiet)/\x.cell? ⟨b,i*17+10,none⟩=some (.int .i64 r.vk)/\x.cell? ⟨b,i*17+11,none⟩=some (.int .i64 r.vn)/\x.cell? ⟨b,i*17+12,none⟩=some (.string (aa r.vs))/\x.cell? ⟨b,i*17+13,none⟩=some (.int .i64 r.place)/\x.cell? ⟨b,i*17+14,none⟩=some (.string (aa r.head))/\x.cell? ⟨b,i*17+15,none⟩=some (.pointer r.fp)/\x.cell? ⟨b,i*17+16,none⟩=some (.slice r.xo r.xn r.xc)
def mI(w:World)(FB:List Nat)(v:Value)(ts:List (aT × Ex)):Prop:=∃ao cap,v=.slice ao ts.length cap/\ts.length<=1000/\(ts= []\/∃b,ao=some ⟨b,0,none⟩/\b<w.heap.size/\∀(i:Nat) (te:aT × Ex),ts[i]? =some te->∃r:fG,ym w b i r/\mH w FB r te.1 te.2)
theorem ym.ah{w x:World}{b i:Nat}{r:fG}(h:ym w b i r)(a:∀o,x.cell? ⟨b,o,none⟩=w.cell? ⟨b,o,none⟩):ym x b i r:=by
 unfold ym at h ⊢;simp only[a];exact h
theorem mI.ah{w x:World}{d:List Nat}{v:Value}{f:List (aT × Ex)}(h:mI w d v f)(hb:Below w.heap.size w x):mI x d v f:=by
 obtain⟨g,cap,j,k,l⟩:=h;refine⟨g,cap,j,k, ?_⟩;rcases l with h|⟨b,e,hl,hc⟩
 ·exact .inl h
 ·refine .inr ⟨b,e,by have:=hb.size;omega,λi n m=> ?_⟩;obtain⟨r,a,c⟩:=hc i n m;exact⟨r,a.ah λo=>hb.cell (p:=⟨b,o,none⟩) hl,c.ah hb⟩
def fP(ts:List (aT × Ex))(l:Bs):Option Nat:=ts.findIdx? (λte=>te.1.name==l)
theorem Cv{x:World}{b:Nat}{a0 a1 a2 a3 a4 a5 j k l a9 a c d e f g i:Value}{T:TypeId}(h:x.heap[b]? =some (.cells #[a0,a1,a2,a3,a4,a5,j,k,l,a9,a,c,d,e,f,g,i] T (0,0))):
  (x.cell? ⟨b,0,none⟩=some a0/\x.cell? ⟨b,1,none⟩=some a1/\x.cell? ⟨b,2,none⟩=some a2/\x.cell? ⟨b,3,none⟩=some a3/\x.cell? ⟨b,4,none⟩=some a4/\x.cell? ⟨b,5,none⟩=some a5/\x.cell? ⟨b,6,none⟩=some j/\x.cell? ⟨b,7,none⟩=some k/\x.cell? ⟨b,8,none⟩=some l/\x.cell? ⟨b,9,none⟩=some a9/\x.cell? ⟨b,10,none⟩=some a/\x.cell? ⟨b,11,none⟩=some c/\x.cell? ⟨b,12,none⟩=some d/\x.cell? ⟨b,13,none⟩=some e/\x.cell? ⟨b,14,none⟩=some f/\x.cell? ⟨b,15,none⟩=some g/\x.cell? ⟨b,16,none⟩=some i)/\(x.frozen? ⟨b,0,none⟩=false/\x.frozen? ⟨b,1,none⟩=false/\x.frozen? ⟨b,2,none⟩=false/\x.frozen? ⟨b,3,none⟩=false/\x.frozen? ⟨b,4,none⟩=false/\x.frozen? ⟨b,5,none⟩=false/\x.frozen? ⟨b,6,none⟩=false/\x.frozen? ⟨b,7,none⟩=false/\x.frozen? ⟨b,8,none⟩=false/\x.frozen? ⟨b,9,none⟩=false/\x.frozen? ⟨b,10,none⟩=false/\x.frozen? ⟨b,11,none⟩=false/\x.frozen? ⟨b,12,none⟩=false/\x.frozen? ⟨b,13,none⟩=false/\x.frozen? ⟨b,14,none⟩=false/\x.frozen? ⟨b,15,none⟩=false/\x.frozen? ⟨b,16,none⟩=false):=by
 simp[World.cell?,World.frozen?,h]
theorem xw{B:Nat}{w x:World}{b:Nat}(h:Below B w x)(hb:B<=b)(a0 a1 a2 a3 a4 a5 j k l a9 a c d e f g i:Value):Below B w (((((((((((((((((x.setCell ⟨b,0,none⟩ a0).setCell ⟨b,1,none⟩ a1).setCell ⟨b,2,none⟩ a2).setCell ⟨b,3,none⟩ a3).setCell ⟨b,4,none⟩ a4).setCell ⟨b,5,none⟩ a5).setCell ⟨b,6,none⟩ j).setCell ⟨b,7,none⟩ k).setCell ⟨b,8,none⟩ l).setCell ⟨b,9,none⟩ a9).setCell ⟨b,10,none⟩ a).setCell ⟨b,11,none⟩ c).setCell ⟨b,12,none⟩ d).setCell ⟨b,13,none⟩ e).setCell ⟨b,14,none⟩ f).setCell ⟨b,15,none⟩ g).setCell ⟨b,16,none⟩ i):=
 (((((((((((((((((h.setCell (p:=⟨b,0,none⟩) hb _).setCell (p:=⟨b,1,none⟩) hb _).setCell (p:=⟨b,2,none⟩) hb _).setCell (p:=⟨b,3,none⟩) hb _).setCell (p:=⟨b,4,none⟩) hb _).setCell (p:=⟨b,5,none⟩) hb _).setCell (p:=⟨b,6,none⟩) hb _).setCell (p:=⟨b,7,none⟩) hb _).setCell (p:=⟨b,8,none⟩) hb _).setCell (p:=⟨b,9,none⟩) hb _).setCell (p:=⟨b,10,none⟩) hb _).setCell (p:=⟨b,11,none⟩) hb _).setCell (p:=⟨b,12,none⟩) hb _).setCell (p:=⟨b,13,none⟩) hb _).setCell (p:=⟨b,14,none⟩) hb _).setCell (p:=⟨b,15,none⟩) hb _).setCell (p:=⟨b,16,none⟩) hb _)
theorem Jn(w:World)(a:Nat)(r:fG)(l:Bs)(b:a<w.heap.size)(d:w.cell? ⟨a,0,none⟩=some (.string (aa l))):
  Calls prog 134 #[.agg #[.string (aa r.name),.slice r.co r.cn r.cc,.slice r.ro r.rn r.rc,.int .i64 r.count,.string (aa r.aG),.slice r.uo r.un r.uc,.int .i64 r.sort,.int .i64 r.ty,.int .i64 r.size,.bool r.quiet,.int .i64 r.vk,.int .i64 r.vn,.string (aa r.vs),.int .i64 r.place,.string (aa r.head),.pointer r.fp,.slice r.xo r.xn r.xc],.pointer (some ⟨a,0,none⟩)] w λe w'=>e=.returned (.bool (r.name==l))/\Below w.heap.size w w':=by
 have c:Hid ((r.name==l)=((aa r.name).toList==(aa l).toList)):=by rw[Hid,aj,aj]
 have hb:=ae w (.cells #[.string (aa r.name),.slice r.co r.cn r.cc,.slice r.ro r.rn r.rc,.int .i64 r.count,.string (aa r.aG),.slice r.uo r.un r.uc,.int .i64 r.sort,.int .i64 r.ty,.int .i64 r.size,.bool r.quiet,.int .i64 r.vk,.int .i64 r.vn,.string (aa r.vs),.int .i64 r.place,.string (aa r.head),.pointer r.fp,.slice r.xo r.xn r.xc] 235);have f:=(hb.cell (p:=⟨a,0,none⟩) b).trans d;go_enter Tryz.func134,Tryz.ntmps134;go_upto_region 1 with fail
 first
  |(go_region;go_wp2_with fail;go_ret;exact⟨by rw[c.out];rfl,hb.drew⟩)
  |(go_wp2_with fail;go_ret;exact⟨by rw[c.out];rfl,hb⟩)
theorem nO(w:World)(D:List Nat)(v:Value)(a:List (aT × Ex))(m:Nat)(l:Bs)(h:mI w D v a)(z:m<w.heap.size)(I:w.cell? ⟨m,0,none⟩=some (.string (aa l))):
  Calls prog 133 #[v,.func (Fn.func 134) #[] #[.pointer (some ⟨m,0,none⟩)]] w λe w'=>(∃k:Int,e=.returned (.int .i64 k)/\((fP a l=none/\k= -1)\/∃i:Nat,fP a l=some i/\k=i/\i<a.length))/\Below w.heap.size w w':=by
 obtain⟨H,cap,rfl,S,B⟩:=h;go_enter Tryz.func133,Tryz.ntmps133
 go_wp2_with fail
 go_loopw [8] (λC Q=>∃i:Nat,i<=a.length/\C=.int .i64 i/\Below w.heap.size w Q/\Hid (fP a l=((a.drop i).findIdx? (λf=>f.1.name==l)).map (· +i))) (λC _=>a.length- (intOf C).toNat)
 case atStart=>exact⟨0,zero_le _,rfl,refl _ _,by rw[Hid];simp[fP]⟩
 case round=>
  obtain⟨i,R,rfl,g,t⟩:=hrel;by_cases c:i<a.length
  ·obtain⟨b,rfl,hb,E⟩:∃b,H=some ⟨b,0,none⟩/\b<w.heap.size/\∀(i:Nat) (f:aT × Ex),a[i]? =some f->∃r:fG,ym w b i r/\mH w D r f.1 f.2:=by
    rcases B with h|h
    ·subst h;simp at c
    ·exact h
   obtain⟨r,j,G⟩:=E i a[i] (getElem?_eq_getElem c);obtain⟨T,U,V,W,X,Y,Z,q7,q8,q9,J,K,L,M,N,O,P⟩:=j.ah λo=>g.cell (p:=⟨b,o,none⟩) hb;have y:=(g.cell (p:=⟨m,0,none⟩) z).trans I;have F:a.drop i=a[i]::a.drop (i+1):=drop_eq_getElem_cons c;have n:Hid (fP a l=if(r.name==l)then some i else((a.drop (i+1)).findIdx? (λf=>f.1.name==l)).map (· +(i+1))):=by
    rw[Hid,t.out,F,List.findIdx?_cons,G.name]
    cases(a[i].1.name==l)
    ·simp only[Bool.false_eq_true,if_false,Option.map_map];congr 1;funext x;simp;omega
    ·simp
   have A:m<wr.heap.size:=by have:=g.size;omega
   have u:=Jn wr m r l A y;clear E F B t G j;obtain⟨d,s⟩:∃d,d=(r.name==l):=⟨_,rfl⟩;rw[<-s]at u n;clear s
   cases d with
   |true=>
    have q:Hid (fP a l=some i):=by rw[Hid,n.out,if_pos rfl]
    clear n
    go_wp2_with(go_at_call 134;refine u.mono ?_;rintro e w2 ⟨rfl,hb2⟩)
    go_ret;exact⟨⟨_,rfl,.inr ⟨i,q.out,rfl,c⟩⟩,g.trans (hb2.mono g.size)⟩
   |false=>
    have q:Hid (fP a l=((a.drop (i+1)).findIdx? (λf=>f.1.name==l)).map (· +(i+1))):=by rw[Hid,n.out,if_neg Bool.false_ne_true]
    clear n
    go_wp2_with(go_at_call 134;refine u.mono ?_;rintro e w2 ⟨rfl,hb2⟩)
    go_roundw
    case rel=>exact⟨i+1,by omega,by go_num,g.trans (hb2.mono g.size),q⟩
    case measure=>simp[intOf];omega
  ·have q:Hid (fP a l=none):=by rw[Hid,t.out,drop_of_length_le (by omega)];rfl
   clear t B
   go_wp2_with fail
   go_ret;exact⟨⟨_,rfl,.inl ⟨q.out,rfl⟩⟩,g⟩
end Go.Proofs.YtdifpeaklamhnaaGreatDoor
