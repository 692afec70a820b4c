import Derived.Test.YtdifpeaklamhnaaGreatDoorBaA
import Derived.Test.YtdifpeaklamhnaaGreatDoorWkFZ
import Derived.Deep.AppendLies
set_option linter.unusedVariables false
set_option linter.unusedSimpArgs false
set_option maxRecDepth 100000
set_option maxHeartbeats 0
namespace Go.Proofs.YtdifpeaklamhnaaGreatDoor
open Go.Proofs.Tryz
open Go.RowKit
open World (size_alloc)
open Below (refl heap_alloc)
open List (getElem?_eq_getElem drop_eq_getElem_cons drop_of_length_le)
open Nat (zero_le)
abbrev dL:=Bs × Bs × Int
def fH(c:dL):Int:=match c.2.1 with
 | [x]=>iT x.toNat
 |_=>0
theorem mq(c:dL)(w:World):Calls prog 245 #[.agg #[.string (aa c.1),.string (aa c.2.1),.int .i64 c.2.2]] w λe w'=>e=.returned (.int .i64 (fH c))/\Below w.heap.size w w':=by
 obtain⟨n,t,d⟩:=c;have b:=ae w (.cells #[.string (aa n),.string (aa t),.int .i64 d] 50);have a:(aa t).size=t.length:=aF t
 match t,a with
 | [],a=>
  have g:aa ([]:Bs)=⟨#[]⟩:=rfl;simp only[g]at b ⊢;go_enter Tryz.func245,Tryz.ntmps245
  go_wp2_with fail
  go_ret;exact⟨rfl,b⟩
 | [x],a=>
  have g:aa [x]=⟨#[x]⟩:=rfl;have j:=λy:World=>xA (x.toNat:Int) y;have f:Hid (fH (n,[x],d)=iT x.toNat):=rfl;simp only[g]at b a ⊢;go_enter Tryz.func245,Tryz.ntmps245
  go_wp2_with(go_at_call 241;refine(j _).mono ?_;rintro e w2 ⟨rfl,rfl⟩)
  go_ret;exact⟨by rw[f.out];rfl,b⟩
 |x::y::r,a=>
  have f:Hid (fH (n,x::y::r,d)=0):=rfl;have h:((((aa (x::y::r)).size:Nat):Int)==1)=false:=by
   rw[a];simp;omega
  obtain⟨t,i⟩:∃t,t=aa (x::y::r):=⟨_,rfl⟩;simp only[<-i]at b h ⊢;clear a i;go_enter Tryz.func245,Tryz.ntmps245
  go_wp2_with fail
  go_ret;exact⟨by rw[f.out];rfl,b⟩
def jX(c:dL):Bool:=aU c.1&& !(fH c==0)&&decide (1<=c.2.2)&&decide (c.2.2<=1000000)
theorem Ai(c:dL)(w:World)(q:c.1.length<=maxLen):Calls prog 293 #[.agg #[.string (aa c.1),.string (aa c.2.1),.int .i64 c.2.2]] w λe w'=>e=.returned (.bool (jX c))/\Below w.heap.size w w':=by
 have j:=λy:World=>mq c y;have f:Hid (jX c=(aU c.1&& !(fH c==0)&&decide (1<=c.2.2)&&decide (c.2.2<=1000000))):=rfl;obtain⟨ty,h⟩:∃t,t=fH c:=⟨_,rfl⟩;rw[<-h]at f;simp only[<-h]at j;clear h;obtain⟨n,t,d⟩:=c;simp only at j f q ⊢;have s:(aa n).size<=maxLen:=by rw[aF];exact q
 have b:=ae w (.cells #[.string (aa n),.string (aa t),.int .i64 d] 50);have o:=heap_alloc_new w (.cells #[.string (aa n),.string (aa t),.int .i64 d] 50);have k:∀y:World,Calls prog 171 #[.string (aa n)] y λe w'=>e=.returned (.bool (aU n))/\w'=y:=by
  intro y;have:=jY (aa n) y s;rw[au]at this;exact this
 obtain⟨a,m⟩:∃a,a=aU n:=⟨_,rfl⟩;rw[<-m]at f;simp only[<-m]at k;clear m
 cases a
 ·go_enter Tryz.func293,Tryz.ntmps293
  go_wp2_with(go_at_call 171;refine(k _).mono ?_;rintro e w2 ⟨rfl,rfl⟩)
  go_ret;exact⟨by rw[f.out];rfl,b⟩
 ·cases i:(ty==0)
  ·rw[i]at f;have l:(ty != 0)=true:=by rw[bne,i];rfl
   clear i;by_cases p:1<=d
   ·have g:decide (1<=d)=true:=by simpa using p
    rw[g]at f;go_enter Tryz.func293,Tryz.ntmps293
    go_wp2_with(first
     |(go_at_call 171;refine(k _).mono ?_;rintro e w2 ⟨rfl,rfl⟩)
     |(go_at_call 245;refine(j _).mono ?_;rintro e r ⟨rfl,hb3⟩;obtain⟨⟨a0,a1,a2⟩,_⟩:=rz ((hb3.block _ (by simp[size_alloc])).trans o)))
    go_ret;exact⟨by rw[f.out];simp,b.trans (hb3.mono b.size)⟩
   ·have g:decide (1<=d)=false:=by simpa using p
    rw[g]at f;go_enter Tryz.func293,Tryz.ntmps293
    go_wp2_with(first
     |(go_at_call 171;refine(k _).mono ?_;rintro e w2 ⟨rfl,rfl⟩)
     |(go_at_call 245;refine(j _).mono ?_;rintro e r ⟨rfl,hb3⟩;obtain⟨⟨a0,a1,a2⟩,_⟩:=rz ((hb3.block _ (by simp[size_alloc])).trans o)))
    go_ret;exact⟨by rw[f.out];rfl,b.trans (hb3.mono b.size)⟩
  ·rw[i]at f;have l:(ty != 0)=false:=by rw[bne,i];rfl
   clear i;go_enter Tryz.func293,Tryz.ntmps293
   go_wp2_with(first
    |(go_at_call 171;refine(k _).mono ?_;rintro e w2 ⟨rfl,rfl⟩)
    |(go_at_call 245;refine(j _).mono ?_;rintro e r ⟨rfl,hb3⟩;obtain⟨⟨a0,a1,a2⟩,_⟩:=rz ((hb3.block _ (by simp[size_alloc])).trans o)))
   go_ret;exact⟨by rw[f.out];rfl,b.trans (hb3.mono b.size)⟩
def dM(w:World)(v:Value)(cs:List dL):Prop:=∃ao cap,v=.slice ao cs.length cap/\cs.length<=cap/\cs.length<=maxLen/\(cs= []\/∃b off,ao=some ⟨b,off,none⟩/\b<w.heap.size/\∀(i:Nat) (c:dL),cs[i]? =some c->
 (w.cell? ⟨b,off+i*3,none⟩=some (.string (aa c.1))/\w.cell? ⟨b,off+i*3+1,none⟩=some (.string (aa c.2.1))/\w.cell? ⟨b,off+i*3+2,none⟩=some (.int .i64 c.2.2))/\c.1.length<=maxLen/\c.2.1.length<=maxLen)
theorem dM.ag{w x:World}{v:Value}{cs:List dL}(h:dM w v cs)(hb:Below w.heap.size w x):dM x v cs:=by
 obtain⟨j,cap,l,g,m,n⟩:=h;refine⟨j,cap,l,g,m, ?_⟩;rcases n with h|⟨b,off,e,hl,hc⟩
 ·exact .inl h
 ·refine .inr ⟨b,off,e,by have:=hb.size;omega,λi f o=> ?_⟩;obtain⟨⟨a,k,c⟩,d⟩:=hc i f o;exact⟨⟨(hb.cell (p:=⟨b,_,none⟩) hl).trans a,(hb.cell (p:=⟨b,_,none⟩) hl).trans k,(hb.cell (p:=⟨b,_,none⟩) hl).trans c⟩,d⟩
def iA(l:Bs)(cs:List dL):Bool:=cs.any λc=>c.1==l
theorem Ml(w:World)(a:Nat)(c:dL)(l:Bs)(b:a<w.heap.size)(f:w.cell? ⟨a,0,none⟩=some (.string (aa l))):
  Calls prog 292 #[.agg #[.string (aa c.1),.string (aa c.2.1),.int .i64 c.2.2],.pointer (some ⟨a,0,none⟩)] w λe w'=>e=.returned (.bool (c.1==l))/\Below w.heap.size w w':=by
 have d:Hid ((c.1==l)=((aa c.1).toList==(aa l).toList)):=by rw[Hid,au,au]
 have hb:=ae w (.cells #[.string (aa c.1),.string (aa c.2.1),.int .i64 c.2.2] 50);have g:=(hb.cell (p:=⟨a,0,none⟩) b).trans f;go_enter Tryz.func292,Tryz.ntmps292;go_upto_region 1 with fail
 first
  |(go_region;go_wp2_with fail;go_ret;exact⟨by rw[d.out];rfl,hb.drew⟩)
  |(go_wp2_with fail;go_ret;exact⟨by rw[d.out];rfl,hb⟩)
theorem uz(w:World)(v:Value)(cs:List dL)(m:Nat)(l:Bs)(h:dM w v cs)(u:m<w.heap.size)(I:w.cell? ⟨m,0,none⟩=some (.string (aa l))):
  Calls prog 333 #[v,.func (Fn.func 292) #[] #[.pointer (some ⟨m,0,none⟩)]] w λe w'=>(∃k:Int,e=.returned (.int .i64 k)/\decide (0<=k)=iA l cs)/\Below w.heap.size w w':=by
 obtain⟨F,cap,rfl,_,H,y⟩:=h;unfold maxLen at H;go_enter Tryz.func333,Tryz.ntmps333
 go_wp2_with fail
 go_loopw [8] (λz M=>∃i:Nat,i<=cs.length/\z=.int .i64 i/\Below w.heap.size w M/\Hid (iA l cs=iA l (cs.drop i))) (λz _=>cs.length- (intOf z).toNat)
 case atStart=>exact⟨0,zero_le _,rfl,refl _ _,rfl⟩
 case round=>
  obtain⟨i,N,rfl,f,r⟩:=hrel;have q:=f.size;by_cases g:i<cs.length
  ·obtain⟨b,a,rfl,hb,A⟩:∃b a,F=some ⟨b,a,none⟩/\b<w.heap.size/\∀(i:Nat) (c:dL),cs[i]? =some c->(w.cell? ⟨b,a+i*3,none⟩=some (.string (aa c.1))/\w.cell? ⟨b,a+i*3+1,none⟩=some (.string (aa c.2.1))/\w.cell? ⟨b,a+i*3+2,none⟩=some (.int .i64 c.2.2))/\c.1.length<=maxLen/\c.2.1.length<=maxLen:=by
    rcases y with h|h
    ·subst h;simp at g
    ·exact h
   obtain⟨⟨C,D,E⟩,_⟩:=A i cs[i] (getElem?_eq_getElem g);have J:=(f.cell (p:=⟨b,a+i*3,none⟩) hb).trans C;have K:=(f.cell (p:=⟨b,a+i*3+1,none⟩) hb).trans D;have L:=(f.cell (p:=⟨b,a+i*3+2,none⟩) hb).trans E;have j:Hid (iA l cs=((cs[i].1==l)||iA l (cs.drop (i+1)))):=by rw[Hid,r.out,drop_eq_getElem_cons g];rfl
   have t:=(f.cell (p:=⟨m,0,none⟩) u).trans I;obtain⟨c,o⟩:∃c,c=cs[i]:=⟨_,rfl⟩;rw[<-o]at J K L j;have x:m<wr.heap.size:=by omega
   have G:b<wr.heap.size:=by omega
   have s:=Ml wr m c l x t;clear A y o r C D E;obtain⟨d,B⟩:∃d,d=(c.1==l):=⟨_,rfl⟩;rw[<-B]at s j;clear B
   cases d with
   |false=>
    have n:Hid (iA l cs=iA l (cs.drop (i+1))):=by rw[Hid,j.out];rfl
    clear j
    go_wp2_with(go_at_call 292;refine s.mono ?_;rintro e w2 ⟨rfl,hb2⟩)
    go_roundw
    case rel=>exact⟨i+1,by omega,by go_num,f.trans (hb2.mono q),n⟩
    case measure=>simp[intOf];omega
   |true=>
    have n:Hid (iA l cs=true):=by rw[Hid,j.out];rfl
    clear j
    go_wp2_with(go_at_call 292;refine s.mono ?_;rintro e w2 ⟨rfl,hb2⟩)
    go_ret;exact⟨⟨_,rfl,by rw[n.out];simp⟩,f.trans (hb2.mono q)⟩
  ·have n:Hid (iA l cs=false):=by rw[Hid,r.out,drop_of_length_le (by omega)];rfl
   clear r y
   go_wp2_with fail
   go_ret;exact⟨⟨_,rfl,by rw[n.out];rfl⟩,f⟩
theorem qI(w:World)(v:Value)(cs:List dL)(a:Nat)(l:Bs)(h:dM w v cs)(b:a<w.heap.size)(d:w.cell? ⟨a,0,none⟩=some (.string (aa l))):
  Calls prog 294 #[v,.func (Fn.func 292) #[] #[.pointer (some ⟨a,0,none⟩)]] w λe w'=>e=.returned (.bool (iA l cs))/\Below w.heap.size w w':=by
 have c:=uz w v cs a l h b d;go_enter Tryz.func294,Tryz.ntmps294
 go_wp2_with(go_at_call 333;refine c.mono ?_;rintro e w2 ⟨⟨i,rfl,hi⟩,hb2⟩)
 go_ret;exact⟨rfl,hb2⟩
def bT(prev:List dL):List dL->Bool
 | []=>true
 |c::r=>jX c&& !iA c.1 prev&&bT (prev++ [c]) r
def bG(cs:List dL):Bool:= !(decide (cs.length<1)||decide (4<cs.length))&&bT [] cs
theorem dM.take{w:World}{a:Option Addr}{n cap:Nat}{cs:List dL}(h:dM w (.slice a n cap) cs)(i:Nat)(q:i<=cs.length):dM w (.slice a i cap) (cs.take i):=by
 obtain⟨k,g,e,o,p,l⟩:=h
 cases e;have m:(cs.take i).length=i:=by rw[List.length_take];omega
 refine⟨a,cap,by rw[m],by omega,by omega, ?_⟩;rcases l with h|⟨b,off,e,hlt,hc⟩
 ·subst h;exact .inl (by simp)
 ·exact .inr ⟨b,off,e,hlt,λj c d=>hc j c (by
   have f:j<i:=by have:=(List.getElem?_eq_some_iff.mp d).1;omega
   rw[List.getElem?_take_of_lt f]at d;exact d)⟩
theorem yx(w:World)(v:Value)(cs:List dL)(h:dM w v cs):
  Calls prog 243 #[v] w λe w'=>e=.returned (.bool (bG cs))/\Below w.heap.size w w':=by
 have E:=h;obtain⟨O,cap,rfl,K,R,H⟩:=h;unfold maxLen at R;by_cases C:cs.length<1
 ·have n:Hid (bG cs=false):=by rw[Hid,bG,decide_eq_true C];rfl
  have Q:decide ((cs.length:Int)<1)=true:=decide_eq_true (by omega);clear H E;go_enter Tryz.func243,Tryz.ntmps243
  go_wp2_with fail
  go_ret;exact⟨by rw[n.out];rfl,refl _ _⟩
 ·have Q:decide ((cs.length:Int)<1)=false:=decide_eq_false (by omega);by_cases J:4<cs.length
  ·have n:Hid (bG cs=false):=by rw[Hid,bG,decide_eq_true J];simp
   have G:decide ((4:Int)<(cs.length:Int))=true:=decide_eq_true (by omega);clear H E;go_enter Tryz.func243,Tryz.ntmps243
   go_wp2_with fail
   go_ret;exact⟨by rw[n.out];rfl,refl _ _⟩
  ·have G:decide ((4:Int)<(cs.length:Int))=false:=decide_eq_false (by omega);have n:Hid (bG cs=bT (cs.take 0) (cs.drop 0)):=by rw[Hid,bG,decide_eq_false C,decide_eq_false J];simp
   obtain⟨b,a,rfl,hb,F⟩:∃b a,O=some ⟨b,a,none⟩/\b<w.heap.size/\∀(i:Nat) (c:dL),cs[i]? =some c->(w.cell? ⟨b,a+i*3,none⟩=some (.string (aa c.1))/\w.cell? ⟨b,a+i*3+1,none⟩=some (.string (aa c.2.1))/\w.cell? ⟨b,a+i*3+2,none⟩=some (.int .i64 c.2.2))/\c.1.length<=maxLen/\c.2.1.length<=maxLen:=by
    rcases H with h|h
    ·subst h;simp at C
    ·exact h
   go_enter Tryz.func243,Tryz.ntmps243
   go_wp2_with fail
   go_loopw [16] (λI Z=>∃i:Nat,i<=cs.length/\I=.int .i64 i/\Below w.heap.size w Z/\Hid (bG cs=bT (cs.take i) (cs.drop i))) (λI _=>cs.length- (intOf I).toNat)
   case atStart=>exact⟨0,zero_le _,rfl,refl _ _,n⟩
   case round=>
    obtain⟨i,hi,rfl,f,z⟩:=hrel;have k:=f.size;by_cases q:i<cs.length
    ·obtain⟨⟨L,M,N⟩,u,_⟩:=F i cs[i] (getElem?_eq_getElem q);have V:=(f.cell (p:=⟨b,a+i*3,none⟩) hb).trans L;have W:=(f.cell (p:=⟨b,a+i*3+1,none⟩) hb).trans M;have X:=(f.cell (p:=⟨b,a+i*3+2,none⟩) hb).trans N;have d:Hid (bG cs=(jX cs[i]&& !iA cs[i].1 (cs.take i)&&bT (cs.take (i+1)) (cs.drop (i+1)))):=by
      rw[Hid,z.out,drop_eq_getElem_cons q,bT,List.take_succ_eq_append_getElem q]
     obtain⟨c,t⟩:∃c,c=cs[i]:=⟨_,rfl⟩;rw[<-t]at V W X d u;have P:b<wr.heap.size:=by omega
     have g:=ae wr (.cells #[.string (aa c.1),.string (aa c.2.1),.int .i64 c.2.2] 50);have T:=heap_alloc_new wr (.cells #[.string (aa c.1),.string (aa c.2.1),.int .i64 c.2.2] 50);have s:=Ai c (wr.alloc (.cells #[.string (aa c.1),.string (aa c.2.1),.int .i64 c.2.2] 50)) u;have A:=λ(x:World) (y:Below w.heap.size w x)=>(E.ag y).take i (by omega);clear F z L M N t n
     cases j:jX c with
     |false=>
      have m:Hid (bG cs=false):=by rw[Hid,d.out,j];rfl
      rw[j]at s;clear d A
      go_wp2_with(go_at_call 293;refine s.mono ?_;rintro e w2 ⟨rfl,hb2⟩)
      go_ret;exact⟨by rw[m.out];rfl,(f.trans (g.mono k)).trans (hb2.mono (by rw[size_alloc];omega))⟩
     |true=>
      rw[j]at s d;have B:∀x:World,Below (wr.alloc (.cells #[.string (aa c.1),.string (aa c.2.1),.int .i64 c.2.2] 50)).heap.size (wr.alloc (.cells #[.string (aa c.1),.string (aa c.2.1),.int .i64 c.2.2] 50)) x->Calls prog 294 #[.slice (some ⟨b,a,none⟩) i cap,.func (Fn.func 292) #[] #[.pointer (some ⟨wr.heap.size,0,none⟩)]] x λe w'=>e=.returned (.bool (iA c.1 (cs.take i)))/\Below x.heap.size x w':=by
       intro x y;have D:Below w.heap.size w x:=(f.trans (g.mono k)).trans (y.mono (by rw[size_alloc];omega));have S:=y.size;rw[size_alloc]at S;exact qI x _ _ wr.heap.size c.1 (A x D) (by omega) ((af ((y.block wr.heap.size (by rw[size_alloc];omega)).trans T)).trans rfl)
      obtain⟨U,o⟩:∃l,l=iA c.1 (cs.take i):=⟨_,rfl⟩;rw[<-o]at d;simp only[<-o]at B;clear o A j
      cases U with
      |true=>
       have m:Hid (bG cs=false):=by rw[Hid,d.out];rfl
       clear d
       go_wp2_with(first
        |(go_at_call 293;refine s.mono ?_;rintro e w2 ⟨rfl,hb2⟩)
        |(go_at_call 294;refine(B _ hb2).mono ?_;rintro e Y ⟨rfl,hb3⟩))
       go_ret;have r:=hb2.size;rw[size_alloc]at r;exact⟨by rw[m.out];rfl,((f.trans (g.mono k)).trans (hb2.mono (by rw[size_alloc];omega))).trans (hb3.mono (by omega))⟩
      |false=>
       have m:Hid (bG cs=bT (cs.take (i+1)) (cs.drop (i+1))):=by rw[Hid,d.out];rfl
       clear d
       go_wp2_with(first
        |(go_at_call 293;refine s.mono ?_;rintro e w2 ⟨rfl,hb2⟩)
        |(go_at_call 294;refine(B _ hb2).mono ?_;rintro e Y ⟨rfl,hb3⟩))
       have r:=hb2.size;rw[size_alloc]at r;go_roundw
       case rel=>exact⟨i+1,by omega,by go_num,((f.trans (g.mono k)).trans (hb2.mono (by rw[size_alloc];omega))).trans (hb3.mono (by omega)),m⟩
       case measure=>simp[intOf];omega
    ·have m:Hid (bG cs=true):=by rw[Hid,z.out,drop_of_length_le (by omega)];rfl
     clear z F n
     go_wp2_with fail
     go_ret;exact⟨by rw[m.out];rfl,f⟩
theorem Jn(c:aj)(d:dL)(w:World):
  Calls prog 334 #[.agg #[.int .i64 c.1,.int .i64 c.2.1,.string (aa c.2.2)],.agg #[.string (aa d.1),.string (aa d.2.1),.int .i64 d.2.2]] w λe w'=>e=.returned (.bool (bV c (fH d)))/\Below w.heap.size w w':=by
 obtain⟨k,n,l⟩:=c;have h:=λy:World=>mq d y;obtain⟨t,j⟩:∃t,t=fH d:=⟨_,rfl⟩;simp only[<-j]at h ⊢;clear j;have g:=λy:World=>Oy k n l t y;obtain⟨r,i⟩:∃r,r=bV (k,n,l) t:=⟨_,rfl⟩;simp only[<-i]at g ⊢;clear i;have b:=az w (.cells #[.int .i64 k,.int .i64 n,.string (aa l)] 56) (.cells #[.string (aa d.1),.string (aa d.2.1),.int .i64 d.2.2] 50);have m:((w.alloc (.cells #[.int .i64 k,.int .i64 n,.string (aa l)] 56)).alloc (.cells #[.string (aa d.1),.string (aa d.2.1),.int .i64 d.2.2] 50)).heap[w.heap.size]? =some (.cells #[.int .i64 k,.int .i64 n,.string (aa l)] 56):=(heap_alloc _ _ _ (by simp[size_alloc])).trans (heap_alloc_new w _);go_enter Tryz.func334,Tryz.ntmps334;go_upto_region 1 with fail
 go_region_with(first
  |(go_at_call 245;refine(h _).mono ?_;rintro e w2 ⟨rfl,a⟩;replace a:=jT a;have f:=b.trans (a.mono b.size);obtain⟨⟨a0,a1,a2⟩,_⟩:=rz ((a.block _ (by simp[size_alloc];omega)).trans m))
  |(go_at_call 125;refine(g _).mono ?_;rintro e o ⟨rfl,hb3⟩))
 all_goals(go_wp2_with fail;go_ret)
 all_goals exact⟨rfl,f.trans (hb3.mono f.size)⟩
def fQ:List aj->List dL->Bool
 | [],[]=>true
 |c::cs,d::ds=>bV c (fH d)&&fQ cs ds
 |_,_=>false
theorem uU:∀(cs:List aj) (a:List dL),cs.length≠a.length->fQ cs a=false
 | [],[],h=>absurd rfl h
 | [],_::_,_=>rfl
 |_::_,[],_=>rfl
 |c::cs,d::a,h=>by rw[fQ,uU cs a (by simpa using h)];simp
theorem vW(w:World)(U v2:Value)(cs:List aj)(a:List dL)(V:aO w U cs)(W:dM w v2 a):
  Calls prog 335 #[U,v2,.func (Fn.func 334) #[] #[]] w λe w'=>e=.returned (.bool (fQ cs a))/\Below w.heap.size w w':=by
 obtain⟨a1,c1,rfl,l1,r1⟩:=V;obtain⟨a2,c2,rfl,_,l2,r2⟩:=W;unfold maxLen at l1 l2;by_cases g:cs.length=a.length
 ·obtain⟨m,B⟩:∃m,m=cs.length:=⟨_,rfl⟩;have t:Hid (cs.length=m):=B.symm;have u:Hid (a.length=m):=by rw[Hid,<-g,B]
  rw[<-g,<-B];rw[<-B]at l1;clear g B l2;go_enter Tryz.func335,Tryz.ntmps335
  go_wp2_with fail
  go_loopw [17] (λG wx=>∃i:Nat,i<=m/\G=.int .i64 i/\Below w.heap.size w wx/\Hid (fQ cs a=fQ (cs.drop i) (a.drop i))) (λG _=>m- (intOf G).toNat)
  case atStart=>exact⟨0,zero_le _,rfl,refl _ _,rfl⟩
  case round=>
   obtain⟨i,hi,rfl,k,D⟩:=hrel;have C:=k.size;by_cases N:i<m
   ·have l:i<cs.length:=by have:=t.out;omega
    have j:i<a.length:=by have:=u.out;omega
    obtain⟨b1,H,rfl,q,v⟩:∃b f,a1=some ⟨b,f,none⟩/\b<w.heap.size/\∀(i:Nat) (c:aj),cs[i]? =some c->w.cell? ⟨b,f+i*3,none⟩=some (.int .i64 c.1)/\w.cell? ⟨b,f+i*3+1,none⟩=some (.int .i64 c.2.1)/\w.cell? ⟨b,f+i*3+2,none⟩=some (.string (aa c.2.2)):=by
     rcases r1 with h|h
     ·subst h;simp at l
     ·exact h
    obtain⟨b2,I,rfl,r,y⟩:∃b f,a2=some ⟨b,f,none⟩/\b<w.heap.size/\∀(i:Nat) (c:dL),a[i]? =some c->(w.cell? ⟨b,f+i*3,none⟩=some (.string (aa c.1))/\w.cell? ⟨b,f+i*3+1,none⟩=some (.string (aa c.2.1))/\w.cell? ⟨b,f+i*3+2,none⟩=some (.int .i64 c.2.2))/\c.1.length<=maxLen/\c.2.1.length<=maxLen:=by
     rcases r2 with h|h
     ·subst h;simp at j
     ·exact h
    obtain⟨O,P,Q⟩:=v i cs[i] (getElem?_eq_getElem l);obtain⟨⟨R,S,T⟩, -⟩:=y i a[i] (getElem?_eq_getElem j);have Y:=(k.cell (p:=⟨b1,H+i*3,none⟩) q).trans O;have Z:=(k.cell (p:=⟨b1,H+i*3+1,none⟩) q).trans P;have q2:=(k.cell (p:=⟨b1,H+i*3+2,none⟩) q).trans Q;have q3:=(k.cell (p:=⟨b2,I+i*3,none⟩) r).trans R;have q4:=(k.cell (p:=⟨b2,I+i*3+1,none⟩) r).trans S;have q5:=(k.cell (p:=⟨b2,I+i*3+2,none⟩) r).trans T;have n:Hid (fQ cs a=(bV cs[i] (fH a[i])&&fQ (cs.drop (i+1)) (a.drop (i+1)))):=by
     rw[Hid,D.out,drop_eq_getElem_cons l,drop_eq_getElem_cons j,fQ]
    obtain⟨J,z⟩:∃c,c=cs[i]:=⟨_,rfl⟩;obtain⟨K,A⟩:∃d,d=a[i]:=⟨_,rfl⟩;rw[<-z]at Y Z q2 n;rw[<-A]at q3 q4 q5 n;have E:=λx:World=>Jn J K x;obtain⟨d,F⟩:∃d,d=bV J (fH K):=⟨_,rfl⟩;rw[<-F]at n;simp only[<-F]at E;have L:b1<wr.heap.size:=by omega
    have M:b2<wr.heap.size:=by omega
    clear D v y r1 r2 O P Q R S T z A F l j
    cases d
    ·have o:Hid (fQ cs a=false):=by rw[Hid,n.out];rfl
     clear n
     go_wp2_with(go_at_call 334;refine(E _).mono ?_;rintro e w2 ⟨rfl,hb2'⟩)
     go_ret;have s:Below wr.heap.size wr w2:=by
      first|exact(az wr _ _).trans (hb2'.mono (by simp[size_alloc];omega))|exact(ae wr _).trans (hb2'.mono (by simp[size_alloc]))|exact hb2'
     exact⟨ay o.out.symm,k.trans (s.mono C)⟩
    ·have o:Hid (fQ cs a=fQ (cs.drop (i+1)) (a.drop (i+1))):=by rw[Hid,n.out];rfl
     clear n
     go_wp2_with(go_at_call 334;refine(E _).mono ?_;rintro e w2 ⟨rfl,hb2'⟩)
     have s:Below wr.heap.size wr w2:=by
      first|exact(az wr _ _).trans (hb2'.mono (by simp[size_alloc];omega))|exact(ae wr _).trans (hb2'.mono (by simp[size_alloc]))|exact hb2'
     go_roundw
     case rel=>exact⟨i+1,by omega,by go_num,k.trans (s.mono C),o⟩
     case measure=>simp[intOf];omega
   ·have o:Hid (fQ cs a=true):=by rw[Hid,D.out,drop_of_length_le (by have:=t.out;omega),drop_of_length_le (by have:=u.out;omega)];rfl
    clear D r1 r2
    go_wp2_with fail
    go_ret;exact⟨ay o.out.symm,k⟩
 ·have X:((cs.length:Int)==(a.length:Int))=false:=by simp;omega
  have o:Hid (fQ cs a=false):=uU cs a g;clear r1 r2;go_enter Tryz.func335,Tryz.ntmps335
  go_wp2_with fail
  go_ret;exact⟨ay o.out.symm,refl _ _⟩
theorem Ma(w:World)(b v2:Value)(cs:List aj)(a:List dL)(c:aO w b cs)(d:dM w v2 a):
  Calls prog 295 #[b,v2] w λe w'=>e=.returned (.bool (fQ cs a))/\Below w.heap.size w w':=by
 have f:=vW w b v2 cs a c d;obtain⟨a1,g,rfl,_,_⟩:=c;obtain⟨a2,h,rfl,_,_,_⟩:=d;go_enter Tryz.func295,Tryz.ntmps295
 go_wp2_with(go_at_call 335;refine f.mono ?_;rintro e w2 ⟨rfl,hb2⟩)
 go_ret;exact⟨rfl,hb2⟩
def RowsIn(w:World)(v:Value)(rs:List (List aj)):Prop:=∃ao cap,v=.slice ao rs.length cap/\rs.length<=maxLen/\(rs= []\/∃b off,ao=some ⟨b,off,none⟩/\b<w.heap.size/\∀(i:Nat) (r:List aj),rs[i]? =some r->∃ro rn rc,w.cell? ⟨b,off+i,none⟩=some (.slice ro rn rc)/\aO w (.slice ro rn rc) r)
theorem RowsIn.ag{w x:World}{v:Value}{d:List (List aj)}(h:RowsIn w v d)(hb:Below w.heap.size w x):RowsIn x v d:=by
 obtain⟨f,cap,g,j,k⟩:=h;refine⟨f,cap,g,j, ?_⟩;rcases k with h|⟨b,off,e,hl,hc⟩
 ·exact .inl h
 ·refine .inr ⟨b,off,e,by have:=hb.size;omega,λi r l=> ?_⟩;obtain⟨ro,rn,rc,a,c⟩:=hc i r l;exact⟨ro,rn,rc,(hb.cell (p:=⟨b,_,none⟩) hl).trans a,c.ag hb⟩
def fe(rs:List (List aj))(ds:List dL):Bool:= !decide (10<rs.length)&&rs.all λr=>fQ r ds
theorem Eg(w:World)(v:Value)(m:Option Addr)(B A:Nat)(a:List (List aj))(c:List dL)(G:RowsIn w v a)(t:dM w (.slice m B A) c):
  Calls prog 244 #[v,.slice m B A] w λe w'=>e=.returned (.bool (fe a c))/\Below w.heap.size w w':=by
 obtain⟨F,cap,rfl,J,u⟩:=G;unfold maxLen at J;by_cases n:10<a.length
 ·have I:decide ((10:Int)<(a.length:Int))=true:=decide_eq_true (by omega);have g:Hid (fe a c=false):=by rw[Hid,fe,decide_eq_true n];rfl
  clear u t;go_enter Tryz.func244,Tryz.ntmps244
  go_wp2_with fail
  go_ret;exact⟨by rw[g.out];rfl,refl _ _⟩
 ·have I:decide ((10:Int)<(a.length:Int))=false:=decide_eq_false (by omega);have y:Hid (fe a c=(a.drop 0).all λr=>fQ r c):=by rw[Hid,fe,decide_eq_false n];simp
  go_enter Tryz.func244,Tryz.ntmps244
  go_wp2_with fail
  go_loopw [12] (λz K=>∃i:Nat,i<=a.length/\z=.int .i64 i/\Below w.heap.size w K/\Hid (fe a c=(a.drop i).all λr=>fQ r c)) (λz _=>a.length- (intOf z).toNat)
  case atStart=>exact⟨0,zero_le _,rfl,refl _ _,y⟩
  case round=>
   obtain⟨i,L,rfl,j,s⟩:=hrel;have q:=j.size;by_cases k:i<a.length
   ·obtain⟨b,f,rfl,hb,C⟩:∃b f,F=some ⟨b,f,none⟩/\b<w.heap.size/\∀(i:Nat) (r:List aj),a[i]? =some r->∃ro rn rc,w.cell? ⟨b,f+i,none⟩=some (.slice ro rn rc)/\aO w (.slice ro rn rc) r:=by
     rcases u with h|h
     ·subst h;simp at k
     ·exact h
    obtain⟨ro,rn,rc,E,D⟩:=C i a[i] (getElem?_eq_getElem k);have M:=(j.cell (p:=⟨b,f+i,none⟩) hb).trans E;have l:Hid (fe a c=(fQ a[i] c&&(a.drop (i+1)).all λr=>fQ r c)):=by rw[Hid,s.out,drop_eq_getElem_cons k];rfl
    have x:=Ma wr _ _ a[i] c (D.ag j) (t.ag j);obtain⟨d,o⟩:∃d,d=fQ a[i] c:=⟨_,rfl⟩;rw[<-o]at l x;have H:b<wr.heap.size:=by omega
    clear s C u E o D y t
    cases d
    ·have g:Hid (fe a c=false):=by rw[Hid,l.out];rfl
     clear l
     go_wp2_with(go_at_call 295;refine x.mono ?_;rintro e w2 ⟨rfl,hb2⟩)
     go_ret;exact⟨by rw[g.out];rfl,j.trans (hb2.mono q)⟩
    ·have g:Hid (fe a c=(a.drop (i+1)).all λr=>fQ r c):=by rw[Hid,l.out];rfl
     clear l
     go_wp2_with(go_at_call 295;refine x.mono ?_;rintro e w2 ⟨rfl,hb2⟩)
     go_roundw
     case rel=>exact⟨i+1,by omega,by go_num,j.trans (hb2.mono q),g⟩
     case measure=>simp[intOf];omega
   ·have g:Hid (fe a c=true):=by rw[Hid,s.out,drop_of_length_le (by omega)];rfl
    clear s u y t
    go_wp2_with fail
    go_ret;exact⟨by rw[g.out];rfl,j⟩
structure aJ where
 name:Bs
 ax:List dL
 rows:List (List aj)
 count:Int
 aD:Bs
 eZ:List Bs
def bJ(t:aJ):Bool:=bG t.ax&&decide (0<=t.count)&&decide (t.count<=1000000)&&fe t.rows t.ax
theorem EY(w:World)(t:aJ)(co:Option Addr)(cn cc:Nat)(ro:Option Addr)(rn rc:Nat)(uo:Option Addr)(un uc:Nat)(k:dM w (.slice co cn cc) t.ax)(p:RowsIn w (.slice ro rn rc) t.rows):
  Calls prog 188 #[.agg #[.string (aa t.name),.slice co cn cc,.slice ro rn rc,.int .i64 t.count,.string (aa t.aD),.slice uo un uc]] w λe w'=>e=.returned (.bool (bJ t))/\Below w.heap.size w w':=by
 have g:=ae w (.cells #[.string (aa t.name),.slice co cn cc,.slice ro rn rc,.int .i64 t.count,.string (aa t.aD),.slice uo un uc] 54);have r:=heap_alloc_new w (.cells #[.string (aa t.name),.slice co cn cc,.slice ro rn rc,.int .i64 t.count,.string (aa t.aD),.slice uo un uc] 54);have i:=yx _ _ t.ax (k.ag g);have j:=λ(x:World) (q:Below w.heap.size w x)=>Eg x _ co cn cc t.rows t.ax (p.ag q) (k.ag q);have d:Hid (bJ t=(bG t.ax&&decide (0<=t.count)&&decide (t.count<=1000000)&&fe t.rows t.ax)):=rfl;obtain⟨a,o⟩:∃a,a=bG t.ax:=⟨_,rfl⟩;obtain⟨b,hb⟩:∃b,b=fe t.rows t.ax:=⟨_,rfl⟩;rw[<-o]at i d;rw[<-hb]at d;simp only[<-hb]at j;clear o hb k p;have f:∀w2:World,Below (w.alloc (.cells #[.string (aa t.name),.slice co cn cc,.slice ro rn rc,.int .i64 t.count,.string (aa t.aD),.slice uo un uc] 54)).heap.size (w.alloc (.cells #[.string (aa t.name),.slice co cn cc,.slice ro rn rc,.int .i64 t.count,.string (aa t.aD),.slice uo un uc] 54)) w2->(w2.cell? ⟨w.heap.size,1,none⟩=some (.slice co cn cc)/\w2.cell? ⟨w.heap.size,2,none⟩=some (.slice ro rn rc)/\w2.cell? ⟨w.heap.size,3,none⟩=some (.int .i64 t.count))/\Below w.heap.size w w2:=by
  intro w2 h;have l:=(h.block w.heap.size (by simp[size_alloc])).trans r;exact⟨⟨(af l).trans rfl,(af l).trans rfl,(af l).trans rfl⟩,g.trans (h.mono g.size)⟩
 cases a
 ·go_enter Tryz.func188,Tryz.ntmps188
  go_wp2_with(go_at_call 243;refine i.mono ?_;rintro e w2 ⟨rfl,hb2⟩;obtain⟨⟨a1,a2,a3⟩,c⟩:=f w2 hb2)
  go_ret;exact⟨by rw[d.out];rfl,c⟩
 ·by_cases m:0<=t.count
  ·have d0:decide (0<=t.count)=true:=decide_eq_true m;by_cases n:t.count<=1000000
   ·have d1:decide (t.count<=1000000)=true:=decide_eq_true n;rw[d0,d1]at d;go_enter Tryz.func188,Tryz.ntmps188
    go_wp2_with(first
     |(go_at_call 243;refine i.mono ?_;rintro e w2 ⟨rfl,hb2⟩;obtain⟨⟨a1,a2,a3⟩,c⟩:=f w2 hb2)
     |(go_at_call 244;refine(j _ c).mono ?_;rintro e s ⟨rfl,hb3⟩))
    go_ret;exact⟨by rw[d.out];rfl,c.trans (hb3.mono c.size)⟩
   ·have d1:decide (t.count<=1000000)=false:=decide_eq_false n;rw[d0,d1]at d;go_enter Tryz.func188,Tryz.ntmps188
    go_wp2_with(go_at_call 243;refine i.mono ?_;rintro e w2 ⟨rfl,hb2⟩;obtain⟨⟨a1,a2,a3⟩,c⟩:=f w2 hb2)
    go_ret;exact⟨by rw[d.out];rfl,c⟩
  ·have d0:decide (0<=t.count)=false:=decide_eq_false m;rw[d0]at d;go_enter Tryz.func188,Tryz.ntmps188
   go_wp2_with(go_at_call 243;refine i.mono ?_;rintro e w2 ⟨rfl,hb2⟩;obtain⟨⟨a1,a2,a3⟩,c⟩:=f w2 hb2)
   go_ret;exact⟨by rw[d.out];rfl,c⟩
def dO(tb:Bs)(c:dL):Bs × Int:=(tb++ [46]++c.1,fH c)
def dY(ns:List (Bs × Int)):List Value:=ns.flatMap λn=>[Value.string (aa n.1),.int .i64 n.2]
theorem vH(a b:List (Bs × Int)):dY (a++b)=dY a++dY b:=by simp[dY]
theorem sw:∀(ns:List (Bs × Int)) (i:Nat) (n:Bs × Int),ns[i]? =some n->(dY ns)[i*2]? =some (.string (aa n.1))/\(dY ns)[i*2+1]? =some (.int .i64 n.2)
 | [],i,n,h=>by simp at h
 |m::ns,0,n,h=>by simp at h;subst h;simp[dY]
 |m::ns,i+1,n,h=>by
  have:=sw ns i n (by simpa using h);have e:dY (m::ns)= [Value.string (aa m.1),.int .i64 m.2]++dY ns:=by simp[dY]
  rw[e];refine⟨?_, ?_⟩
  ·rw[List.getElem?_append_right (by simp;omega),<-this.1];congr 1;simp;omega
  ·rw[List.getElem?_append_right (by simp;omega),<-this.2];congr 1;simp;omega
theorem FH{w:World}{b:Nat}{v:Value}{ns:List (Bs × Int)}(h:w.ownsRow b 380 2 v ns.length (dY ns))(k:ns.length<=1000):iH w v ns:=by
 rcases h.2 with⟨rfl,j⟩|⟨g,cap,d,rfl,m⟩
 ·have:ns= []:=List.length_eq_zero_iff.mp j;subst this;exact⟨_,_,rfl,by simp,.inl rfl⟩
 ·refine⟨_,_,rfl,k,.inr ⟨g,rfl,(h.lt g rfl).2,λi n l=> ?_⟩⟩;obtain⟨e,f⟩:=sw ns i n l;have a:=h.cells (g:=g) rfl (i*2) _ e;have c:=h.cells (g:=g) rfl (i*2+1) _ f;rw[Addr.add_lit]at a c;exact⟨by simpa using a,by simpa using c⟩
theorem OG:(Tryz.prog.info? 380).map (λi=>(i.zero,i.size,i.bytes))=some (some (.agg #[.string ⟨#[]⟩,.int .i64 0]),2,24):=by kernel_rfl
theorem mh(x:World)(o:Obj):(x.alloc o).drew.heap[x.heap.size]? =some o:=heap_alloc_new x o
theorem Tj(a n:Bs):(aa a++ByteArray.mk #[46])++aa n=aa (a++ [46]++n):=by
 have b:=ui a [46];have c:=ui (a++ [46]) n;have e:ByteArray.mk #[46]=aa [46]:=rfl;rw[e,b,c]
theorem Mm(w:World)(a:Bs)(ht:a.length<=1000)(v:Value)(cs:List dL)(h:dM w v cs)(h4:cs.length<=1000)(P:∀c∈cs,c.1.length<=1000):
  Calls prog 189 #[.string (aa a),v] w λe w'=>∃no nn nc,e=.returned (.slice no nn nc)/\iH w' (.slice no nn nc) (cs.map (dO a))/\Below w.heap.size w w':=by
 obtain⟨i0,hi,T,U,V⟩:=info_parts OG;obtain⟨ao,cap,rfl,_,_,S⟩:=h;have a7:(aa a).size<=1000:=by rw[aF];exact ht
 have a4:(ByteArray.mk #[46]).size=1:=rfl;go_enter Tryz.func189,Tryz.ntmps189
 go_wp2_with fail
 go_loopw [5,10] (λkv W wr=>∃(i kn B:Nat) (C:Option Addr),i<=cs.length/\kv=.slice C kn B/\W=.int .i64 i/\wr.ownsRow w.heap.size 380 2 (.slice C kn B) i (dY ((cs.take i).map (dO a)))/\Below w.heap.size w wr) (λ_ W _=>cs.length- (intOf W).toNat)
 case atStart=>exact⟨0,0,0,none,zero_le _,rfl,rfl,World.ownsRow_nil _ _ _ _,refl _ _⟩
 case round=>
  obtain⟨i,kn,B,C,a5,rfl,rfl,f,A⟩:=hrel;have Q:=A.size;by_cases q:i<cs.length
  ·obtain⟨b,j,rfl,hb,Z⟩:∃b j,ao=some ⟨b,j,none⟩/\b<w.heap.size/\∀(i:Nat) (c:dL),cs[i]? =some c->(w.cell? ⟨b,j+i*3,none⟩=some (.string (aa c.1))/\w.cell? ⟨b,j+i*3+1,none⟩=some (.string (aa c.2.1))/\w.cell? ⟨b,j+i*3+2,none⟩=some (.int .i64 c.2.2))/\c.1.length<=maxLen/\c.2.1.length<=maxLen:=by
    rcases S with h|h
    ·subst h;simp at q
    ·exact h
   obtain⟨⟨p0,p1,p2⟩, -⟩:=Z i cs[i] (getElem?_eq_getElem q);have q0:=(A.cell (p:=⟨b,j+i*3,none⟩) hb).trans p0;have q1:=(A.cell (p:=⟨b,j+i*3+1,none⟩) hb).trans p1;have q2:=(A.cell (p:=⟨b,j+i*3+2,none⟩) hb).trans p2;have H:=P cs[i] (List.getElem_mem q);have M:Hid ((cs.take (i+1)).map (dO a)=(cs.take i).map (dO a)++ [dO a cs[i]]):=by rw[Hid,List.take_succ_eq_append_getElem q,List.map_append];rfl
   obtain⟨c,G⟩:∃c,c=cs[i]:=⟨_,rfl⟩;rw[<-G]at q0 q1 q2 H M;have a2:b<wr.heap.size:=by omega
   have X:=λx:World=>mq c x;have r:Hid (dO a c=(a++ [46]++c.1,fH c)):=rfl;obtain⟨ty,K⟩:∃t,t=fH c:=⟨_,rfl⟩;simp only[<-K]at X r;have a3:(aa c.1).size<=1000:=by rw[aF];exact H
   have y:=Tj a c.1;have Y:aa a++ByteArray.mk #[46]=aa (a++ [46]):=ui a [46];have N:(aa (a++ [46])).size<=1001:=by rw[aF];simp;omega
   rw[Y]at y;have g1:¬9223372036854775807<(aa a).size+1:=by omega
   have g2:¬9223372036854775807<(aa (a++ [46])).size+(aa c.1).size:=by omega
   obtain⟨nm,I⟩:∃x,x=a++ [46]++c.1:=⟨_,rfl⟩;obtain⟨t1,J⟩:∃x,x=a++ [46]:=⟨_,rfl⟩;rw[<-I]at y r;rw[<-J]at y Y N g2;clear Z S p0 p1 p2 G K P I J;go_upto_region 5 with fail
   have s:=ae wr (.cells #[.string (aa c.1),.string (aa c.2.1),.int .i64 c.2.2] 50);obtain⟨L,n⟩:∃x,x=wr.alloc (.cells #[.string (aa c.1),.string (aa c.2.1),.int .i64 c.2.2] 50):=⟨_,rfl⟩;rw[<-n]at s ⊢;have kx:L.heap[wr.heap.size]? =some (.cells #[.string (aa c.1),.string (aa c.2.1),.int .i64 c.2.2] 50):=by rw[n];exact heap_alloc_new wr _
   obtain⟨⟨x0,x1,x2⟩,_⟩:=rz kx;have a1:L.heap.size=wr.heap.size+1:=by rw[n];simp
   have D:∀(z:World),Below L.heap.size L z->∀o:Obj,(z.alloc o).drew.ownsRow w.heap.size 380 2 (.slice C kn B) i (dY ((cs.take i).map (dO a))):=λz d o=>
    World.ownsRow.drew (World.ownsRow.alloc (aA f λg hg=>(d.block g (by have:=(f.lt g hg).2;omega)).trans (s.block g (f.lt g hg).2)) o)
   clear n
   go_region_law (first
    |(refine step_append_lies _ rfl (.tmp 14) (.tmp 23) 329 rfl w.heap.size 380 i0 _ 2 24 Tryz.underlying329 hi T U V rfl (by decide) (.slice C kn B) _ (dY ((cs.take i).map (dO a))) (by simp[Act.eval]) (D _ d _) ⟨z.heap.size,0,none⟩ 1 1 [.string (aa nm),.int .i64 ty] (by simp[Act.eval]) rfl (World.news_of_block (mh z _)) (by intro u hu;simp at hu;rcases hu with rfl|rfl<;>rfl) (by decide) (by unfold maxLen;omega) (by omega) (by simp;omega) (z.heap.size+1) (by simp) ?_;intro g9 E w9 m l F a0)
    |(go_simp;go_at_call 245;refine(X _).mono ?_;rintro e' z ⟨rfl,d⟩;replace d:=jT d;have a6:=d.size;obtain⟨⟨y0,y1,y2⟩,_⟩:=rz ((d.block _ (by omega)).trans kx)))
   all_goals
    have R:w9.ownsRow w.heap.size 380 2 (.slice (some ⟨g9,0,none⟩) (i+1) E) (i+1) (dY ((cs.take (i+1)).map (dO a))):=by
     rw[M.out,vH,r.out];exact m
    have RB:Below w.heap.size w w9:=(((A.trans (s.mono Q)).trans (d.mono (by omega))).alloc (by omega) _).grown l (by rw[size_alloc];omega) (λk hk=>(f.lt k hk).1);clear m l f M F
    go_wp2_with fail
    go_roundw
    case rel=>exact⟨i+1,_,_,_,by omega,rfl,by go_num,R,RB⟩
    case measure=>simp[intOf];omega
  ·have O:i=cs.length:=by omega
   have HI:Hid (iH wr (.slice C kn B) (cs.map (dO a))):=by
    rw[O,List.take_length]at f;exact FH (by rw[List.length_map];exact f) (by rw[List.length_map];exact h4)
   clear f S P
   go_wp2_with fail
   go_ret;exact⟨_,_,_,rfl,HI.out,A⟩
structure fw where
 name:Bs
 co:Option Addr
 cn:Nat
 cc:Nat
 ro:Option Addr
 rn:Nat
 rc:Nat
 count:Int
 aD:Bs
 uo:Option Addr
 un:Nat
 uc:Nat
 sort:Int
 ty:Int
 size:Int
 quiet:Bool
 vk:Int
 vn:Int
 vs:Bs
 place:Int
 head:Bs
 fp:Option Addr
 xo:Option Addr
 xn:Nat
 xc:Nat
abbrev fw.arr(r:fw):Array Value:= #[.string (aa r.name),.slice r.co r.cn r.cc,.slice r.ro r.rn r.rc,.int .i64 r.count,.string (aa r.aD),.slice r.uo r.un r.uc,.int .i64 r.sort,.int .i64 r.ty,.int .i64 r.size,.bool r.quiet,.int .i64 r.vk,.int .i64 r.vn,.string (aa r.vs),.int .i64 r.place,.string (aa r.head),.pointer r.fp,.slice r.xo r.xn r.xc]
abbrev fw.ex(r:fw):List Value:=[.int .i64 r.sort,.int .i64 r.ty,.int .i64 r.size,.bool r.quiet,.int .i64 r.vk,.int .i64 r.vn,.string (aa r.vs),.int .i64 r.place,.string (aa r.head),.pointer r.fp,.slice r.xo r.xn r.xc]
def eD(w:World)(v:Value)(ls:List Bs):Prop:=∃ao cap,v=.slice ao ls.length cap/\ls.length<=maxLen/\(ls= []\/∃b off,ao=some ⟨b,off,none⟩/\b<w.heap.size/\∀(i:Nat) (l:Bs),ls[i]? =some l->w.cell? ⟨b,off+i,none⟩=some (.string (aa l)))
theorem eD.ag{w x:World}{v:Value}{a:List Bs}(h:eD w v a)(hb:Below w.heap.size w x):eD x v a:=by
 obtain⟨c,cap,d,f,g⟩:=h;refine⟨c,cap,d,f, ?_⟩;rcases g with h|⟨b,off,e,hl,hc⟩
 ·exact .inl h
 ·exact .inr ⟨b,off,e,by have:=hb.size;omega,λi l j=>(hb.cell (p:=⟨b,_,none⟩) hl).trans (hc i l j)⟩
structure mf(w:World)(FB:List Nat)(r:fw)(t:aJ)(e:Ex):Prop where
 name:r.name=t.name
 count:r.count=t.count
 aD:r.aD=t.aD
 ax:dM w (.slice r.co r.cn r.cc) t.ax
 rows:RowsIn w (.slice r.ro r.rn r.rc) t.rows
 eZ:eD w (.slice r.uo r.un r.uc) t.eZ
 ex:dJ w FB (λ_=>True) r.ex e
theorem mf.ag{w x:World}{a:List Nat}{r:fw}{t:aJ}{e:Ex}(h:mf w a r t e)(hb:Below w.heap.size w x):mf x a r t e:=
 ⟨h.name,h.count,h.aD,h.ax.ag hb,h.rows.ag hb,h.eZ.ag hb,h.ex.ag hb⟩
def wD(x:World)(b i:Nat)(r:fw):Prop:=x.cell? ⟨b,i*17,none⟩=some (.string (aa r.name))/\x.cell? ⟨b,i*17+1,none⟩=some (.slice r.co r.cn r.cc)/\x.cell? ⟨b,i*17+2,none⟩=some (.slice r.ro r.rn r.rc)/\x.cell? ⟨b,i*17+3,none⟩=some (.int .i64 r.count)/\x.cell? ⟨b,i*17+4,none⟩=some (.string (aa r.aD))/\x.cell? ⟨b,i*17+5,none⟩=some (.slice r.uo r.un r.uc)/\x.cell? ⟨b,i*17+6,none⟩=some (.int .i64 r.sort)/\x.cell? ⟨b,i*17+7,none⟩=some (.int .i64 r.ty)/\x.cell? ⟨b,i*17+8,none⟩=some (.int .i64 r.size)/\x.cell? ⟨b,i*17+9,none⟩=some (.bool r.quiet)/\x.cell? ⟨b,i*17+10,none⟩=some (.int .i64 r.vk)/\x.cell? ⟨b,i*17+11,none⟩=some (.int .i64 r.vn)/\x.cell? ⟨b,i*17+12,none⟩=some (.string (aa r.vs))/\x.cell? ⟨b,i*17+13,none⟩=some (.int .i64 r.place)/\x.cell? ⟨b,i*17+14,none⟩=some (.string (aa r.head))/\x.cell? ⟨b,i*17+15,none⟩=some (.pointer r.fp)/\x.cell? ⟨b,i*17+16,none⟩=some (.slice r.xo r.xn r.xc)
def jm(w:World)(FB:List Nat)(v:Value)(ts:List (aJ × Ex)):Prop:=∃ao cap,v=.slice ao ts.length cap/\ts.length<=1000/\(ts= []\/∃b,ao=some ⟨b,0,none⟩/\b<w.heap.size/\∀(i:Nat) (te:aJ × Ex),ts[i]? =some te->∃r:fw,wD w b i r/\mf w FB r te.1 te.2)
theorem wD.ag{w x:World}{b i:Nat}{r:fw}(h:wD w b i r)(a:∀o,x.cell? ⟨b,o,none⟩=w.cell? ⟨b,o,none⟩):wD x b i r:=by
 unfold wD at h ⊢;simp only[a];exact h
theorem jm.ag{w x:World}{d:List Nat}{v:Value}{f:List (aJ × Ex)}(h:jm w d v f)(hb:Below w.heap.size w x):jm x d v f:=by
 obtain⟨g,cap,j,k,l⟩:=h;refine⟨g,cap,j,k, ?_⟩;rcases l with h|⟨b,e,hl,hc⟩
 ·exact .inl h
 ·refine .inr ⟨b,e,by have:=hb.size;omega,λi n m=> ?_⟩;obtain⟨r,a,c⟩:=hc i n m;exact⟨r,a.ag λo=>hb.cell (p:=⟨b,o,none⟩) hl,c.ag hb⟩
theorem JD(w:World)(a:List Nat)(cap:Nat):jm w a (.slice none 0 cap) []:=⟨none,cap,rfl,by simp,.inl rfl⟩
def dH(ts:List (aJ × Ex))(l:Bs):Option Nat:=ts.findIdx? (λte=>te.1.name==l)
theorem uu{x:World}{b:Nat}{a0 a1 a2 a3 a4 a5 j k l a9 a c d e f g i:Value}{T:TypeId}(h:x.heap[b]? =some (.cells #[a0,a1,a2,a3,a4,a5,j,k,l,a9,a,c,d,e,f,g,i] T (0,0))):
  (x.cell? ⟨b,0,none⟩=some a0/\x.cell? ⟨b,1,none⟩=some a1/\x.cell? ⟨b,2,none⟩=some a2/\x.cell? ⟨b,3,none⟩=some a3/\x.cell? ⟨b,4,none⟩=some a4/\x.cell? ⟨b,5,none⟩=some a5/\x.cell? ⟨b,6,none⟩=some j/\x.cell? ⟨b,7,none⟩=some k/\x.cell? ⟨b,8,none⟩=some l/\x.cell? ⟨b,9,none⟩=some a9/\x.cell? ⟨b,10,none⟩=some a/\x.cell? ⟨b,11,none⟩=some c/\x.cell? ⟨b,12,none⟩=some d/\x.cell? ⟨b,13,none⟩=some e/\x.cell? ⟨b,14,none⟩=some f/\x.cell? ⟨b,15,none⟩=some g/\x.cell? ⟨b,16,none⟩=some i)/\(x.frozen? ⟨b,0,none⟩=false/\x.frozen? ⟨b,1,none⟩=false/\x.frozen? ⟨b,2,none⟩=false/\x.frozen? ⟨b,3,none⟩=false/\x.frozen? ⟨b,4,none⟩=false/\x.frozen? ⟨b,5,none⟩=false/\x.frozen? ⟨b,6,none⟩=false/\x.frozen? ⟨b,7,none⟩=false/\x.frozen? ⟨b,8,none⟩=false/\x.frozen? ⟨b,9,none⟩=false/\x.frozen? ⟨b,10,none⟩=false/\x.frozen? ⟨b,11,none⟩=false/\x.frozen? ⟨b,12,none⟩=false/\x.frozen? ⟨b,13,none⟩=false/\x.frozen? ⟨b,14,none⟩=false/\x.frozen? ⟨b,15,none⟩=false/\x.frozen? ⟨b,16,none⟩=false):=by
 simp[World.cell?,World.frozen?,h]
theorem xw{B:Nat}{w x:World}{b:Nat}(h:Below B w x)(hb:B<=b)(a0 a1 a2 a3 a4 a5 j k l a9 a c d e f g i:Value):Below B w (((((((((((((((((x.setCell ⟨b,0,none⟩ a0).setCell ⟨b,1,none⟩ a1).setCell ⟨b,2,none⟩ a2).setCell ⟨b,3,none⟩ a3).setCell ⟨b,4,none⟩ a4).setCell ⟨b,5,none⟩ a5).setCell ⟨b,6,none⟩ j).setCell ⟨b,7,none⟩ k).setCell ⟨b,8,none⟩ l).setCell ⟨b,9,none⟩ a9).setCell ⟨b,10,none⟩ a).setCell ⟨b,11,none⟩ c).setCell ⟨b,12,none⟩ d).setCell ⟨b,13,none⟩ e).setCell ⟨b,14,none⟩ f).setCell ⟨b,15,none⟩ g).setCell ⟨b,16,none⟩ i):=
 (((((((((((((((((h.setCell (p:=⟨b,0,none⟩) hb _).setCell (p:=⟨b,1,none⟩) hb _).setCell (p:=⟨b,2,none⟩) hb _).setCell (p:=⟨b,3,none⟩) hb _).setCell (p:=⟨b,4,none⟩) hb _).setCell (p:=⟨b,5,none⟩) hb _).setCell (p:=⟨b,6,none⟩) hb _).setCell (p:=⟨b,7,none⟩) hb _).setCell (p:=⟨b,8,none⟩) hb _).setCell (p:=⟨b,9,none⟩) hb _).setCell (p:=⟨b,10,none⟩) hb _).setCell (p:=⟨b,11,none⟩) hb _).setCell (p:=⟨b,12,none⟩) hb _).setCell (p:=⟨b,13,none⟩) hb _).setCell (p:=⟨b,14,none⟩) hb _).setCell (p:=⟨b,15,none⟩) hb _).setCell (p:=⟨b,16,none⟩) hb _)
theorem JC(w:World)(a:Nat)(r:fw)(l:Bs)(b:a<w.heap.size)(d:w.cell? ⟨a,0,none⟩=some (.string (aa l))):
  Calls prog 134 #[.agg #[.string (aa r.name),.slice r.co r.cn r.cc,.slice r.ro r.rn r.rc,.int .i64 r.count,.string (aa r.aD),.slice r.uo r.un r.uc,.int .i64 r.sort,.int .i64 r.ty,.int .i64 r.size,.bool r.quiet,.int .i64 r.vk,.int .i64 r.vn,.string (aa r.vs),.int .i64 r.place,.string (aa r.head),.pointer r.fp,.slice r.xo r.xn r.xc],.pointer (some ⟨a,0,none⟩)] w λe w'=>e=.returned (.bool (r.name==l))/\Below w.heap.size w w':=by
 have c:Hid ((r.name==l)=((aa r.name).toList==(aa l).toList)):=by rw[Hid,au,au]
 have hb:=ae w (.cells #[.string (aa r.name),.slice r.co r.cn r.cc,.slice r.ro r.rn r.rc,.int .i64 r.count,.string (aa r.aD),.slice r.uo r.un r.uc,.int .i64 r.sort,.int .i64 r.ty,.int .i64 r.size,.bool r.quiet,.int .i64 r.vk,.int .i64 r.vn,.string (aa r.vs),.int .i64 r.place,.string (aa r.head),.pointer r.fp,.slice r.xo r.xn r.xc] 235);have f:=(hb.cell (p:=⟨a,0,none⟩) b).trans d;go_enter Tryz.func134,Tryz.ntmps134;go_upto_region 1 with fail
 first
  |(go_region;go_wp2_with fail;go_ret;exact⟨by rw[c.out];rfl,hb.drew⟩)
  |(go_wp2_with fail;go_ret;exact⟨by rw[c.out];rfl,hb⟩)
theorem nK(w:World)(D:List Nat)(v:Value)(a:List (aJ × Ex))(m:Nat)(l:Bs)(h:jm w D v a)(z:m<w.heap.size)(I:w.cell? ⟨m,0,none⟩=some (.string (aa l))):
  Calls prog 133 #[v,.func (Fn.func 134) #[] #[.pointer (some ⟨m,0,none⟩)]] w λe w'=>(∃k:Int,e=.returned (.int .i64 k)/\((dH a l=none/\k= -1)\/∃i:Nat,dH a l=some i/\k=i/\i<a.length))/\Below w.heap.size w w':=by
 obtain⟨H,cap,rfl,S,B⟩:=h;go_enter Tryz.func133,Tryz.ntmps133
 go_wp2_with fail
 go_loopw [8] (λC Q=>∃i:Nat,i<=a.length/\C=.int .i64 i/\Below w.heap.size w Q/\Hid (dH a l=((a.drop i).findIdx? (λf=>f.1.name==l)).map (· +i))) (λC _=>a.length- (intOf C).toNat)
 case atStart=>exact⟨0,zero_le _,rfl,refl _ _,by rw[Hid];simp[dH]⟩
 case round=>
  obtain⟨i,R,rfl,g,t⟩:=hrel;by_cases c:i<a.length
  ·obtain⟨b,rfl,hb,E⟩:∃b,H=some ⟨b,0,none⟩/\b<w.heap.size/\∀(i:Nat) (f:aJ × Ex),a[i]? =some f->∃r:fw,wD w b i r/\mf w D r f.1 f.2:=by
    rcases B with h|h
    ·subst h;simp at c
    ·exact h
   obtain⟨r,j,G⟩:=E i a[i] (getElem?_eq_getElem c);obtain⟨T,U,V,W,X,Y,Z,q7,q8,q9,J,K,L,M,N,O,P⟩:=j.ag λo=>g.cell (p:=⟨b,o,none⟩) hb;have y:=(g.cell (p:=⟨m,0,none⟩) z).trans I;have F:a.drop i=a[i]::a.drop (i+1):=drop_eq_getElem_cons c;have n:Hid (dH a l=if(r.name==l)then some i else((a.drop (i+1)).findIdx? (λf=>f.1.name==l)).map (· +(i+1))):=by
    rw[Hid,t.out,F,List.findIdx?_cons,G.name]
    cases(a[i].1.name==l)
    ·simp only[Bool.false_eq_true,if_false,Option.map_map];congr 1;funext x;simp;omega
    ·simp
   have A:m<wr.heap.size:=by have:=g.size;omega
   have u:=JC wr m r l A y;clear E F B t G j;obtain⟨d,s⟩:∃d,d=(r.name==l):=⟨_,rfl⟩;rw[<-s]at u n;clear s
   cases d with
   |true=>
    have q:Hid (dH a l=some i):=by rw[Hid,n.out,if_pos rfl]
    clear n
    go_wp2_with(go_at_call 134;refine u.mono ?_;rintro e w2 ⟨rfl,hb2⟩)
    go_ret;exact⟨⟨_,rfl,.inr ⟨i,q.out,rfl,c⟩⟩,g.trans (hb2.mono g.size)⟩
   |false=>
    have q:Hid (dH a l=((a.drop (i+1)).findIdx? (λf=>f.1.name==l)).map (· +(i+1))):=by rw[Hid,n.out,if_neg Bool.false_ne_true]
    clear n
    go_wp2_with(go_at_call 134;refine u.mono ?_;rintro e w2 ⟨rfl,hb2⟩)
    go_roundw
    case rel=>exact⟨i+1,by omega,by go_num,g.trans (hb2.mono g.size),q⟩
    case measure=>simp[intOf];omega
  ·have q:Hid (dH a l=none):=by rw[Hid,t.out,drop_of_length_le (by omega)];rfl
   clear t B
   go_wp2_with fail
   go_ret;exact⟨⟨_,rfl,.inl ⟨q.out,rfl⟩⟩,g⟩
theorem Gy{x:World}{b:Nat}{b0 b1 b2 b3 b4 b5 u v w y j k l m n o p:Value}{T:TypeId}{t:Nat × Nat}(h:x.heap[b]? =some (.cells #[b0,b1,b2,b3,b4,b5,u,v,w,y,j,k,l,m,n,o,p] T t))(a0 a1 a2 a3 a4 a5 q r s a9 a c d e f g i:Value):(((((((((((((((((x.setCell ⟨b,0,none⟩ a0).setCell ⟨b,1,none⟩ a1).setCell ⟨b,2,none⟩ a2).setCell ⟨b,3,none⟩ a3).setCell ⟨b,4,none⟩ a4).setCell ⟨b,5,none⟩ a5).setCell ⟨b,6,none⟩ q).setCell ⟨b,7,none⟩ r).setCell ⟨b,8,none⟩ s).setCell ⟨b,9,none⟩ a9).setCell ⟨b,10,none⟩ a).setCell ⟨b,11,none⟩ c).setCell ⟨b,12,none⟩ d).setCell ⟨b,13,none⟩ e).setCell ⟨b,14,none⟩ f).setCell ⟨b,15,none⟩ g).setCell ⟨b,16,none⟩ i).heap[b]? =some (.cells #[a0,a1,a2,a3,a4,a5,q,r,s,a9,a,c,d,e,f,g,i] T t):=by
 simp[World.setCell,Array.getElem?_modify,h]
theorem yA(w:World)(n:List Nat)(c:List (aJ × Ex))(m:Option Addr)(b j:Nat)(a:Option Addr)(g f:Nat)(h:jm w n (.slice a g f) c)(l:Bs)(L:dH c l=none):
  Calls prog 76 #[.agg #[.slice m b j,.slice a g f],.string (aa l)] w λe w'=>Below w.heap.size w w'/\((dH c l=none/\e=.returned (.tuple #[.agg #[.string ⟨#[]⟩,.slice none 0 0,.slice none 0 0,.int .i64 0,.string ⟨#[]⟩,.slice none 0 0,.int .i64 0,.int .i64 0,.int .i64 0,.bool false,.int .i64 0,.int .i64 0,.string ⟨#[]⟩,.int .i64 0,.string ⟨#[]⟩,.pointer none,.slice none 0 0],.int .i64 2]))\/∃(i:Nat) (p:aJ × Ex) (r:fw),dH c l=some i/\c[i]? =some p/\e=.returned (.tuple #[.agg #[.string (aa r.name),.slice r.co r.cn r.cc,.slice r.ro r.rn r.rc,.int .i64 r.count,.string (aa r.aD),.slice r.uo r.un r.uc,.int .i64 r.sort,.int .i64 r.ty,.int .i64 r.size,.bool r.quiet,.int .i64 r.vk,.int .i64 r.vn,.string (aa r.vs),.int .i64 r.place,.string (aa r.head),.pointer r.fp,.slice r.xo r.xn r.xc],.int .i64 0])/\mf w' n r p.1 p.2):=by
 have o:Below w.heap.size w (((w.alloc (.cells #[.slice m b j,.slice a g f] 194)).alloc (.cells #[.string (aa l)] 9)).alloc (.cells #[.string ⟨#[]⟩,.slice none 0 0,.slice none 0 0,.int .i64 0,.string ⟨#[]⟩,.slice none 0 0,.int .i64 0,.int .i64 0,.int .i64 0,.bool false,.int .i64 0,.int .i64 0,.string ⟨#[]⟩,.int .i64 0,.string ⟨#[]⟩,.pointer none,.slice none 0 0] 235)):=(pG (refl _ _)).1;have C:(((w.alloc (.cells #[.slice m b j,.slice a g f] 194)).alloc (.cells #[.string (aa l)] 9)).alloc (.cells #[.string ⟨#[]⟩,.slice none 0 0,.slice none 0 0,.int .i64 0,.string ⟨#[]⟩,.slice none 0 0,.int .i64 0,.int .i64 0,.int .i64 0,.bool false,.int .i64 0,.int .i64 0,.string ⟨#[]⟩,.int .i64 0,.string ⟨#[]⟩,.pointer none,.slice none 0 0] 235)).cell? ⟨w.heap.size+1,0,none⟩=some (.string (aa l)):=by
  have:=heap_alloc_new (w.alloc (.cells #[.slice m b j,.slice a g f] 194)) (.cells #[.string (aa l)] 9);rw[size_alloc]at this;exact(af ((heap_alloc _ _ _ (by simp only[size_alloc];omega)).trans this)).trans rfl
 have A:=nK _ n _ c (w.heap.size+1) l (h.ag o) (by simp only[size_alloc];omega) C;have K:=h;obtain⟨S,cap,M,hl,N⟩:=h
 cases M;go_enter Tryz.func76,Tryz.ntmps76
 go_wp2_with(go_at_call 133;refine A.mono ?_)
 clear A C;rintro e w2 ⟨⟨k,rfl,⟨d,rfl⟩|⟨i,d,rfl,hlt⟩⟩,hb2⟩
 ·have E:Hid (dH c l=none):=d;obtain⟨D,⟨_,B⟩,l0,l2⟩:=pG hb2;obtain⟨⟨z0,O,z2,z3,z4,z5,P,Q,R,z9,q,s,t,u,x,y,z⟩,T,g1,U,V,W,X,Y,Z,g8,g9,F,G,H,I,J,g15,g16⟩:=uu B;clear d hb2 N B K
  go_wp2_with fail
  refine bodyPost_ret (v:=.tuple #[.agg #[.string ⟨#[]⟩,.slice none 0 0,.slice none 0 0,.int .i64 0,.string ⟨#[]⟩,.slice none 0 0,.int .i64 0,.int .i64 0,.int .i64 0,.bool false,.int .i64 0,.int .i64 0,.string ⟨#[]⟩,.int .i64 0,.string ⟨#[]⟩,.pointer none,.slice none 0 0],.int .i64 2]) (by simp[results,Tryz.results76,go_sem,z0,O,z2,z3,z4,z5,P,Q,R,z9,q,s,t,u,x,y,z]) rfl ⟨?_,.inl ⟨E.out,rfl⟩⟩;exact xw D (by omega) _ _ _ _ _ _ _ _ _ _ _ _ _ _ _ _ _
 ·rw[L]at d;cases d
end Go.Proofs.YtdifpeaklamhnaaGreatDoor
