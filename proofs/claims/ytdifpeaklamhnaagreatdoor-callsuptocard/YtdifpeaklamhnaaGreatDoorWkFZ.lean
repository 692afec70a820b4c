import Derived.Test.YtdifpeaklamhnaaGreatDoorTyGZ
set_option linter.unusedVariables false
set_option linter.unusedSimpArgs false
set_option maxRecDepth 100000
set_option maxHeartbeats 0
namespace Go.Proofs.YtdifpeaklamhnaaGreatDoor
open Go.Proofs.Tryz
open Go.RowKit
open World (size_alloc var?)
theorem oq(a b:Bs):aa a++aa b=aa (a++b):=by
 apply ByteArray.ext;rw[ByteArray.data_append];simp[aa]
theorem NA(l:List UInt8)(b:Bs):(ByteArray.mk l.toArray)++aa b=aa (l++b):=oq l b
def aP(n:Int):Bool:=decide (-1000000000<=n)&&decide (n<=1000000000)
theorem wN(n:Int)(w:World):Calls prog 248 #[.int .i64 n] w λe w'=>e=.returned (.bool (aP n))/\w'=w:=by
 by_cases h: -1000000000<=n
 ·have b:decide (-1000000000<=n)=true:=by simpa using h
  have a:Hid (aP n=decide (n<=1000000000)):=by rw[Hid,aP,b,Bool.true_and]
  go_enter Tryz.func248,Tryz.ntmps248
  go_wp2_with fail
  go_ret;exact⟨by rw[a.out];rfl,rfl⟩
 ·have b:decide (-1000000000<=n)=false:=by simpa using h
  have a:Hid (aP n=false):=by rw[Hid,aP,b,Bool.false_and]
  go_enter Tryz.func248,Tryz.ntmps248
  go_wp2_with fail
  go_ret;exact⟨by rw[a.out];rfl,rfl⟩
def dm(k n:Int)(l:Bs):Bool:=
 if k=0 then(n==0)&&l.isEmpty else if k=1 then aP n&&l.isEmpty else if k=2 then(n==0)&&decide (l.length<=30)else if k=3 then((n==0)||(n==1))&&l.isEmpty else false
theorem IJ(k n:Int)(s:ByteArray)(w:World):Calls prog 195 #[.agg #[.int .i64 k,.int .i64 n,.string s]] w λe w'=>e=.returned (.bool (dm k n s.toList))/\Below w.heap.size w w':=by
 have b:=ae w (.cells #[.int .i64 k,.int .i64 n,.string s] 56);by_cases f:k=0
 ·subst f;have a:Hid (dm 0 n s.toList=((n==0)&&s.toList.isEmpty)):=by rw[Hid,dm,if_pos rfl]
  cases c:(n==0)<;>rw[c]at a<;>
  ·go_enter Tryz.func195,Tryz.ntmps195
   go_wp2_with fail
   go_ret;exact⟨by rw[a.out];rfl,b⟩
 ·by_cases g:k=1
  ·subst g;have a:Hid (dm 1 n s.toList=(aP n&&s.toList.isEmpty)):=by rw[Hid,dm,if_neg (by omega),if_pos rfl]
   have j:∀x:World,Calls prog 248 #[.int .i64 n] x λe w'=>e=.returned (.bool (aP n))/\w'=x:=λx=>wN n x;obtain⟨d,l⟩:∃d,d=aP n:=⟨_,rfl⟩;rw[<-l]at a j;clear l
   cases d<;>
   ·go_enter Tryz.func195,Tryz.ntmps195
    go_wp2_with(go_at_call 248;refine(j _).mono ?_;rintro e w2 ⟨rfl,rfl⟩)
    go_ret;exact⟨by rw[a.out];rfl,b⟩
  ·by_cases h:k=2
   ·subst h;have a:Hid (dm 2 n s.toList=((n==0)&&decide ((s.size:Int)<=30))):=by
     rw[Hid,dm,if_neg (by omega),if_neg (by omega),if_pos rfl,ai];congr 1;simp;omega
    cases c:(n==0)<;>rw[c]at a<;>
    ·go_enter Tryz.func195,Tryz.ntmps195
     go_wp2_with fail
     go_ret;exact⟨by rw[a.out];rfl,b⟩
   ·by_cases i:k=3
    ·subst i;have a:Hid (dm 3 n s.toList=(((n==0)||(n==1))&&s.toList.isEmpty)):=by rw[Hid,dm,if_neg (by omega),if_neg (by omega),if_neg (by omega),if_pos rfl]
     cases c:(n==0)<;>cases m:(n==1)<;>rw[c,m]at a<;>
     ·go_enter Tryz.func195,Tryz.ntmps195
      go_wp2_with fail
      go_ret;exact⟨by rw[a.out];rfl,b⟩
    ·have a:Hid (dm k n s.toList=false):=by rw[Hid,dm,if_neg f,if_neg g,if_neg h,if_neg i]
     have o:(k==0)=false:=by simpa using f
     have p:(k==1)=false:=by simpa using g
     have q:(k==2)=false:=by simpa using h
     have r:(k==3)=false:=by simpa using i
     go_enter Tryz.func195,Tryz.ntmps195
     go_wp2_with fail
     go_ret;exact⟨by rw[a.out];rfl,b⟩
abbrev au:=Int × Int × Bs
def bH(c:au)(t:Int):Bool:=dm c.1 c.2.1 c.2.2&&((c.1==0)||(c.1==t))
theorem EM(k n:Int)(l:Bs)(t:Int)(w:World):Calls prog 125 #[.agg #[.int .i64 k,.int .i64 n,.string (aa l)],.int .i64 t] w λe w'=>e=.returned (.bool (bH (k,n,l) t))/\Below w.heap.size w w':=by
 have a:=ae w (.cells #[.int .i64 k,.int .i64 n,.string (aa l)] 56);have f:∀x:World,Calls prog 195 #[.agg #[.int .i64 k,.int .i64 n,.string (aa l)]] x λe w'=>e=.returned (.bool (dm k n l))/\Below x.heap.size x w':=by
  intro x;have:=IJ k n (aa l) x;rw[aj]at this;exact this
 have c:Hid (bH (k,n,l) t=(dm k n l&&((k==0)||(k==t)))):=rfl;obtain⟨d,j⟩:∃d,d=dm k n l:=⟨_,rfl⟩;rw[<-j]at f c;clear j;have b:∀w2:World,Below (w.alloc (.cells #[.int .i64 k,.int .i64 n,.string (aa l)] 56)).heap.size (w.alloc (.cells #[.int .i64 k,.int .i64 n,.string (aa l)] 56)) w2->w2.cell? ⟨w.heap.size,0,none⟩=some (.int .i64 k)/\w2.cell? ⟨w.heap.size,1,none⟩=some (.int .i64 n)/\w2.cell? ⟨w.heap.size,2,none⟩=some (.string (aa l)):=by
  intro w2 h;have hb:=(h.block w.heap.size (by simp[size_alloc])).trans (heap_alloc_new w _);exact⟨(ag hb).trans rfl,(ag hb).trans rfl,(ag hb).trans rfl⟩
 cases d
 ·go_enter Tryz.func125,Tryz.ntmps125
  go_wp2_with(go_at_call 195;refine(f _).mono ?_;rintro e w2 ⟨rfl,hb2⟩)
  go_ret;exact⟨by rw[c.out];rfl,a.trans (hb2.mono a.size)⟩
 ·cases g:(k==0)
  ·rw[g]at c;go_enter Tryz.func125,Tryz.ntmps125
   go_wp2_with(first
    |(go_at_call 195;refine(f _).mono ?_;rintro e w2 ⟨rfl,hb2⟩;obtain⟨a0,a1,a2⟩:=b w2 hb2)
    |(go_at_call 196;refine(kX _ _ _ _).mono ?_;rw[g];rintro e i ⟨rfl,hb3⟩;obtain⟨b0,b1,b2⟩:=b i (hb2.trans (hb3.mono hb2.size))))
   go_ret;exact⟨by rw[c.out];rfl,(a.trans (hb2.mono a.size)).trans (hb3.mono (Nat.le_trans a.size hb2.size))⟩
  ·rw[g]at c;go_enter Tryz.func125,Tryz.ntmps125
   go_wp2_with(first
    |(go_at_call 195;refine(f _).mono ?_;rintro e w2 ⟨rfl,hb2⟩;obtain⟨a0,a1,a2⟩:=b w2 hb2)
    |(go_at_call 196;refine(kX _ _ _ _).mono ?_;rw[g];rintro e i ⟨rfl,hb3⟩;obtain⟨b0,b1,b2⟩:=b i (hb2.trans (hb3.mono hb2.size))))
   go_ret;exact⟨by rw[c.out];rfl,(a.trans (hb2.mono a.size)).trans (hb3.mono (Nat.le_trans a.size hb2.size))⟩
def aR(w:World)(v:Value)(cs:List au):Prop:=∃ao cap,v=.slice ao cs.length cap/\cs.length<=maxLen/\(cs= []\/∃b off,ao=some ⟨b,off,none⟩/\b<w.heap.size/\∀(i:Nat) (c:au),cs[i]? =some c->
 w.cell? ⟨b,off+i*3,none⟩=some (.int .i64 c.1)/\w.cell? ⟨b,off+i*3+1,none⟩=some (.int .i64 c.2.1)/\w.cell? ⟨b,off+i*3+2,none⟩=some (.string (aa c.2.2)))
theorem aR.ah{w x:World}{v:Value}{cs:List au}(h:aR w v cs)(hb:Below w.heap.size w x):aR x v cs:=by
 obtain⟨d,cap,j,k,l⟩:=h;refine⟨d,cap,j,k, ?_⟩;rcases l with h|⟨b,off,e,hl,hc⟩
 ·exact .inl h
 ·refine .inr ⟨b,off,e,by have:=hb.size;omega,λi f m=> ?_⟩;obtain⟨a,g,c⟩:=hc i f m;exact⟨(hb.cell (p:=⟨b,_,none⟩) hl).trans a,(hb.cell (p:=⟨b,_,none⟩) hl).trans g,(hb.cell (p:=⟨b,_,none⟩) hl).trans c⟩
def di:List au->List Int->Bool
 | [],[]=>true
 |c::cs,t::ts=>bH c t&&di cs ts
 |_,_=>false
theorem tO:∀(cs:List au) (a:List Int),cs.length≠a.length->di cs a=false
 | [],[],h=>absurd rfl h
 | [],_::_,_=>rfl
 |_::_,[],_=>rfl
 |c::cs,t::a,h=>by rw[di,tO cs a (by simpa using h)];simp
theorem Ai(w:World)(Y v2:Value)(cs:List au)(a:List Int)(h1:aR w Y cs)(h2:aZ w v2 a):
  Calls prog 124 #[Y,v2,.func (Fn.func 125) #[] #[]] w λe w'=>e=.returned (.bool (di cs a))/\Below w.heap.size w w':=by
 obtain⟨a1,c1,rfl,l1,r1⟩:=h1;obtain⟨a2,c2,rfl,l2,r2⟩:=h2;unfold maxLen at l1;by_cases g:cs.length=a.length
 ·obtain⟨m,F⟩:∃m,m=cs.length:=⟨_,rfl⟩;have B:Hid (cs.length=m):=F.symm;have v:Hid (a.length=m):=by rw[Hid,<-g,F]
  rw[<-g,<-F];rw[<-F]at l1;clear g F l2;go_enter Tryz.func124,Tryz.ntmps124
  go_wp2_with fail
  go_loopw [17] (λM wx=>∃i:Nat,i<=m/\M=.int .i64 i/\Below w.heap.size w wx/\Hid (di cs a=di (cs.drop i) (a.drop i))) (λM _=>m- (intOf M).toNat)
  case atStart=>exact⟨0,Nat.zero_le _,rfl,Below.refl _ _,rfl⟩
  case round=>
   obtain⟨i,hi,rfl,r,I⟩:=hrel;have G:=r.size;by_cases Q:i<m
   ·have q:i<cs.length:=by have:=B.out;omega
    obtain⟨b1,N,rfl,z,C⟩:∃b f,a1=some ⟨b,f,none⟩/\b<w.heap.size/\∀(i:Nat) (c:au),cs[i]? =some c->w.cell? ⟨b,f+i*3,none⟩=some (.int .i64 c.1)/\w.cell? ⟨b,f+i*3+1,none⟩=some (.int .i64 c.2.1)/\w.cell? ⟨b,f+i*3+2,none⟩=some (.string (aa c.2.2)):=by
     rcases r1 with h|h
     ·subst h;simp at q
     ·exact h
    obtain⟨b2,o2,rfl,K,D⟩:∃b f,a2=some ⟨b,f,none⟩/\b<w.heap.size/\∀j u,a[j]? =some u->w.cell? ⟨b,f+j,none⟩=some (.int .i64 u):=by
     rcases r2 with h|h
     ·subst h;have:=v.out;simp only[List.length_nil]at this;omega
     ·exact h
    have o:i<a.length:=by have:=v.out;omega
    obtain⟨R,S,T⟩:=C i cs[i] (List.getElem?_eq_getElem q);have U:=(r.cell (p:=⟨b1,N+i*3,none⟩) z).trans R;have V:=(r.cell (p:=⟨b1,N+i*3+1,none⟩) z).trans S;have W:=(r.cell (p:=⟨b1,N+i*3+2,none⟩) z).trans T;have q3:=(r.cell (p:=⟨b2,o2+i,none⟩) K).trans (D i a[i] (List.getElem?_eq_getElem o));have s:Hid (di cs a=(bH cs[i] a[i]&&di (cs.drop (i+1)) (a.drop (i+1)))):=by
     rw[Hid,I.out,List.drop_eq_getElem_cons q,List.drop_eq_getElem_cons o,di]
    obtain⟨Z,E⟩:∃c,c=cs[i]:=⟨_,rfl⟩;obtain⟨X,H⟩:∃t,t=a[i]:=⟨_,rfl⟩;rw[<-E]at U V W s;rw[<-H]at q3 s;obtain⟨k,n,l⟩:=Z;simp only at U V W;have J:=λx:World=>EM k n l X x;obtain⟨d,L⟩:∃d,d=bH (k,n,l) X:=⟨_,rfl⟩;rw[<-L]at s;simp only[<-L]at J;have O:b1<wr.heap.size:=by omega
    have P:b2<wr.heap.size:=by omega
    clear I C D r1 r2 R S T E H L q o
    cases d
    ·have y:Hid (di cs a=false):=by rw[Hid,s.out];rfl
     clear s
     go_wp2_with(go_at_call 125;refine(J _).mono ?_;rintro e w2 ⟨rfl,hb2'⟩)
     go_ret;have A:Below wr.heap.size wr w2:=(ae wr _).trans (hb2'.mono (by simp[size_alloc]));exact⟨ax y.out.symm,r.trans (A.mono G)⟩
    ·have y:Hid (di cs a=di (cs.drop (i+1)) (a.drop (i+1))):=by rw[Hid,s.out];rfl
     clear s
     go_wp2_with(go_at_call 125;refine(J _).mono ?_;rintro e w2 ⟨rfl,hb2'⟩)
     have A:Below wr.heap.size wr w2:=(ae wr _).trans (hb2'.mono (by simp[size_alloc]));go_roundw
     case rel=>exact⟨i+1,by omega,by go_num,r.trans (A.mono G),y⟩
     case measure=>simp[intOf];omega
   ·have y:Hid (di cs a=true):=by rw[Hid,I.out,List.drop_of_length_le (by have:=B.out;omega),List.drop_of_length_le (by have:=v.out;omega)];rfl
    clear I r1 r2
    go_wp2_with fail
    go_ret;exact⟨ax y.out.symm,r⟩
 ·have a0:((cs.length:Int)==(a.length:Int))=false:=by simp;omega
  have y:Hid (di cs a=false):=tO cs a g;clear r1 r2;go_enter Tryz.func124,Tryz.ntmps124
  go_wp2_with fail
  go_ret;exact⟨ax y.out.symm,Below.refl _ _⟩
theorem MO(w:World)(d:List Nat)(q:Nat)(fn:Fn)(b:kD w d q fn)(a:Option Addr)(n cap:Nat)(cs:List au)(h:aR w (.slice a n cap) cs):
  Calls prog 69 #[.pointer (some ⟨q,0,none⟩),.slice a n cap] w λe w'=>e=.returned (.bool (di cs fn.args))/\Below w.heap.size w w':=by
 obtain⟨i,g,c,j,_,_,_⟩:=b.cells;have f:=Ai w _ _ cs fn.args h c;clear h c b;go_enter Tryz.func69,Tryz.ntmps69
 go_wp2_with(go_at_call 124;refine f.mono ?_;rintro e w2 ⟨rfl,hb2⟩)
 go_ret;exact⟨rfl,hb2⟩
theorem Lh(w:World)(b cap:Nat)(a:List Int)(r:a.length<=100)(h:∀j u,a[j]? =some u->w.cell? ⟨b,j,none⟩=some (.int .i64 u)):
  Calls prog 230 #[.slice (some ⟨b,0,none⟩) a.length cap] w λe w'=>e=.returned (.int .i64 (aM a))/\w'=w:=by
 go_enter Tryz.func230,Tryz.ntmps230
 go_wp2_with fail
 go_loopw [8] (λm o=>∃i:Nat,i<=a.length/\m=.int .i64 i/\o=w/\Hid (aM a=aM (a.drop i))) (λm _=>a.length- (intOf m).toNat)
 case atStart=>exact⟨0,Nat.zero_le _,rfl,rfl,rfl⟩
 case round=>
  obtain⟨i,p,rfl,rfl,c⟩:=hrel;by_cases g:i<a.length
  ·have q:=h i a[i] (List.getElem?_eq_getElem g);have k:a.drop i=a[i]::a.drop (i+1):=List.drop_eq_getElem_cons g;by_cases f:a[i]=0
   ·have d:Hid (aM a=aM (a.drop (i+1))):=by rw[Hid,c.out,k,aM,if_pos f]
    rw[f]at q;clear c h k
    go_wp2_with fail
    go_roundw
    case rel=>exact⟨i+1,by omega,by go_num,by trivial,d⟩
    case measure=>simp[intOf];omega
   ·have d:Hid (aM a=a[i]):=by rw[Hid,c.out,k,aM,if_neg f]
    have l:(a[i]==0)=false:=by simpa using f
    obtain⟨u,n⟩:∃u,u=a[i]:=⟨_,rfl⟩;rw[<-n]at q d l f;clear c h k n
    go_wp2_with fail
    go_ret;exact⟨by rw[d.out];rfl,rfl⟩
  ·have d:Hid (aM a=0):=by rw[Hid,c.out,List.drop_of_length_le (by omega)];rfl
   clear c h
   go_wp2_with fail
   go_ret;exact⟨by rw[d.out];rfl,rfl⟩
def uj(a b:au):Int:=aM [Lib.compareInt a.1 b.1,Lib.compareInt a.2.1 b.2.1,Lib.compareBytes a.2.2 b.2.2]
theorem Lf(s:ByteArray)(w:World)(a:s.size<=281474976710656):Calls prog 127 #[.string s] w λe w'=>e=.returned (.string s)/\Below w.heap.size w w':=by
 go_enter Tryz.func127,Tryz.ntmps127
 go_wp2_with(go_at_call 200;refine(Tryz.stringslite_Clone s _ a).mono ?_;rintro e w2 ⟨rfl,hb2⟩)
 go_ret;exact⟨rfl,hb2⟩
theorem nG{x:World}{b:Nat}{a0 a1 a2:Value}{T:TypeId}(h:x.heap[b]? =some (.cells #[a0,a1,a2] T (0,0))):
  (x.cell? ⟨b,0,none⟩=some a0/\x.cell? ⟨b,1,none⟩=some a1/\x.cell? ⟨b,2,none⟩=some a2)/\(x.frozen? ⟨b,0,none⟩=false/\x.frozen? ⟨b,1,none⟩=false/\x.frozen? ⟨b,2,none⟩=false):=by
 simp[World.cell?,World.frozen?,h]
theorem Ry(k n:Int)(s:ByteArray)(w:World)(i:s.size<=281474976710656):Calls prog 71 #[.agg #[.int .i64 k,.int .i64 n,.string s]] w λe w'=>e=.returned (.agg #[.int .i64 k,.int .i64 n,.string s])/\Below w.heap.size w w':=by
 have a:=az w (.cells #[.int .i64 k,.int .i64 n,.string s] 56) (.cells #[.int .i64 0,.int .i64 0,.string ⟨#[]⟩] 56);have d:((w.alloc (.cells #[.int .i64 k,.int .i64 n,.string s] 56)).alloc (.cells #[.int .i64 0,.int .i64 0,.string ⟨#[]⟩] 56)).heap[w.heap.size]? =some (.cells #[.int .i64 k,.int .i64 n,.string s] 56):=(Below.heap_alloc _ _ _ (by simp[size_alloc])).trans (heap_alloc_new w _);have f:((w.alloc (.cells #[.int .i64 k,.int .i64 n,.string s] 56)).alloc (.cells #[.int .i64 0,.int .i64 0,.string ⟨#[]⟩] 56)).heap[w.heap.size+1]? =some (.cells #[.int .i64 0,.int .i64 0,.string ⟨#[]⟩] 56):=by
  have:=heap_alloc_new (w.alloc (.cells #[.int .i64 k,.int .i64 n,.string s] 56)) (.cells #[.int .i64 0,.int .i64 0,.string ⟨#[]⟩] 56);rw[size_alloc]at this;exact this
 go_enter Tryz.func71,Tryz.ntmps71
 go_wp2_with(go_at_call 127;refine(Lf s _ i).mono ?_;rintro e w2 ⟨rfl,hb2⟩;have b:=hb2.size;simp only[size_alloc]at b;have g:w.heap.size<w2.heap.size:=(by omega);have h:w.heap.size+1<w2.heap.size:=(by omega);obtain⟨⟨a0,a1,a2⟩,f0,f1,f2⟩:=nG ((hb2.block _ (by simp[size_alloc];omega)).trans d);obtain⟨⟨b0,b1,b2⟩,j,g1,l⟩:=nG ((hb2.block _ (by simp[size_alloc])).trans f))
 have c:Below w.heap.size w w2:=a.trans (hb2.mono (by simp[size_alloc];omega));refine bodyPost_ret (v:=.agg #[.int .i64 k,.int .i64 n,.string s]) (by simp[results,Tryz.results71,go_sem,b0,b1,b2]) rfl ⟨rfl, ?_⟩;exact(((c.setCell (p:=⟨w.heap.size,2,none⟩) (Nat.le_refl _) _).setCell (p:=⟨w.heap.size+1,0,none⟩) (by simp) _).setCell (p:=⟨w.heap.size+1,1,none⟩) (by simp) _).setCell (p:=⟨w.heap.size+1,2,none⟩) (by simp) _
theorem EO(w:World)(k:Nat)(os:Array Obj):Below w.heap.size w («Sort».grow (w.drewN k) os):=
 ⟨rfl,rfl,rfl,by simp[«Sort».grow,World.drewN],λg a=>by
  show(w.heap++os)[g]? =w.heap[g]?;exact Array.getElem?_append_left a⟩
def fV(c:au):Bs:=if c.1=1 then Lib.itoa c.2.1 else if c.1=2 then 39::(c.2.2++ [39])else if c.1=3 then Lib.formatBool (c.2.1==1)else [45]
abbrev sJ(w:World):Prop:=Lib.TabIs prog w "internal/strconv.uint64pow10" .u64 Lib.pow10Tab
theorem iR{w w':World}(h:sJ w)(hb:Below w.heap.size w w'):sJ w':=by
 have a:∃g,Tryz.prog.globalNamed "internal/strconv.uint64pow10" =some g:=by
  cases e:Tryz.prog.globalNamed "internal/strconv.uint64pow10" with
  |some g=>exact⟨g,rfl⟩
  |none=>unfold sJ Lib.TabIs var? at h;rw[e]at h;cases h
 obtain⟨g,a⟩:=a;unfold sJ Lib.TabIs var? at h ⊢;rw[a]at h ⊢;simp only[Option.bind_some]at h ⊢;have b:g<w.heap.size:=by
  rcases Nat.lt_or_ge g w.heap.size with h'|h'
  ·exact h'
  ·rw[Array.getElem?_eq_none h']at h;cases h
 rw[hb.block g b];exact h
theorem Mi(k n:Int)(l:Bs)(w:World)(o:sJ w)(j: -9223372036854775808<=n)(m:n<=9223372036854775807)(p:l.length<=1000):Calls prog 298 #[.agg #[.int .i64 k,.int .i64 n,.string (aa l)]] w λe w'=>e=.returned (.string (aa (fV (k,n,l))))/\Below w.heap.size w w':=by
 have a:=ae w (.cells #[.int .i64 k,.int .i64 n,.string (aa l)] 56);have b:=iR o a;by_cases c:k=1
 ·subst c;have h:=Tryz.strconv_Itoa n j m _ b;go_enter Tryz.func298,Tryz.ntmps298
  go_wp2_with(go_at_call 336;refine h.mono ?_;rintro e w2 ⟨rfl,kk,os,rfl⟩)
  go_ret;exact⟨rfl,a.trans ((EO _ kk os).mono (by simp[size_alloc]))⟩
 ·by_cases d:k=2
  ·subst d;have q:(aa l).size<=1000:=by rw[aF];exact p
   have s1:(ByteArray.mk #[39]).size=1:=rfl;have s2:(aa (39::l)).size<=1001:=by rw[aF];simp;omega
   have r:(ByteArray.mk #[39])++aa l=aa (39::l):=by
    have:=oq [39] l;exact this
   have s:aa (39::l)++(ByteArray.mk #[39])=aa (39::(l++ [39])):=by
    have:=oq (39::l) [39];exact this
   go_enter Tryz.func298,Tryz.ntmps298
   go_wp2_with fail
   go_ret;exact⟨rfl,a⟩
  ·by_cases f:k=3
   ·subst f;have g:=λx:World=>Tryz.strconv_FormatBool (n==1) x;go_enter Tryz.func298,Tryz.ntmps298
    go_wp2_with(go_at_call 337;refine(g _).mono ?_;rintro e w2 ⟨rfl,rfl⟩)
    go_ret;exact⟨rfl,a⟩
   ·have b1:(k==1)=false:=by simpa using c
    have b2:(k==2)=false:=by simpa using d
    have b3:(k==3)=false:=by simpa using f
    have i:Hid (fV (k,n,l)= [45]):=by rw[Hid,fV,if_neg c,if_neg d,if_neg f]
    go_enter Tryz.func298,Tryz.ntmps298
    go_wp2_with fail
    go_ret;exact⟨by rw[i.out];rfl,a⟩
end Go.Proofs.YtdifpeaklamhnaaGreatDoor
