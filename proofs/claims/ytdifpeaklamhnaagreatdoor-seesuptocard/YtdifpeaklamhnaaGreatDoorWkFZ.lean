import Derived.Test.YtdifpeaklamhnaaGreatDoorTyJZ
import Derived.Test.YtdifpeaklamhnaaGreatDoorAdd
set_option linter.unusedVariables false
set_option linter.unusedSimpArgs false
set_option maxRecDepth 100000
set_option maxHeartbeats 0
namespace Go.Proofs.YtdifpeaklamhnaaGreatDoor
open Go.Proofs.Tryz
open Go.RowKit
def aY(n:Int):Bool:=decide (-1000000000<=n)&&decide (n<=1000000000)
theorem EO(n:Int)(w:World):Calls prog 248 #[.int .i64 n] w λe w'=>e=.returned (.bool (aY n))/\w'=w:=by
 by_cases h: -1000000000<=n
 ·have b:decide (-1000000000<=n)=true:=by simpa using h
  have a:Hid (aY n=decide (n<=1000000000)):=by rw[Hid,aY,b,Bool.true_and]
  go_enter Tryz.func248,Tryz.ntmps248
  go_wp2_with fail
  go_ret;exact⟨by rw[a.out];rfl,rfl⟩
 ·have b:decide (-1000000000<=n)=false:=by simpa using h
  have a:Hid (aY n=false):=by rw[Hid,aY,b,Bool.false_and]
  go_enter Tryz.func248,Tryz.ntmps248
  go_wp2_with fail
  go_ret;exact⟨by rw[a.out];rfl,rfl⟩
def dw(k n:Int)(l:Bs):Bool:=
 if k=0 then(n==0)&&l.isEmpty else if k=1 then aY n&&l.isEmpty else if k=2 then(n==0)&&decide (l.length<=30)else if k=3 then((n==0)||(n==1))&&l.isEmpty else false
theorem IP(k n:Int)(s:ByteArray)(w:World):Calls prog 195 #[.agg #[.int .i64 k,.int .i64 n,.string s]] w λe w'=>e=.returned (.bool (dw k n s.toList))/\Below w.heap.size w w':=by
 have b:=ae w (.cells #[.int .i64 k,.int .i64 n,.string s] 56);by_cases f:k=0
 ·subst f;have a:Hid (dw 0 n s.toList=((n==0)&&s.toList.isEmpty)):=by rw[Hid,dw,if_pos rfl]
  cases c:(n==0)<;>rw[c]at a<;>
  ·go_enter Tryz.func195,Tryz.ntmps195
   go_wp2_with fail
   go_ret;exact⟨by rw[a.out];rfl,b⟩
 ·by_cases g:k=1
  ·subst g;have a:Hid (dw 1 n s.toList=(aY n&&s.toList.isEmpty)):=by rw[Hid,dw,if_neg (by omega),if_pos rfl]
   have j:∀x:World,Calls prog 248 #[.int .i64 n] x λe w'=>e=.returned (.bool (aY n))/\w'=x:=λx=>EO n x;obtain⟨d,l⟩:∃d,d=aY n:=⟨_,rfl⟩;rw[<-l]at a j;clear l
   cases d<;>
   ·go_enter Tryz.func195,Tryz.ntmps195
    go_wp2_with(go_at_call 248;refine(j _).mono ?_;rintro e w2 ⟨rfl,rfl⟩)
    go_ret;exact⟨by rw[a.out];rfl,b⟩
  ·by_cases h:k=2
   ·subst h;have a:Hid (dw 2 n s.toList=((n==0)&&decide ((s.size:Int)<=30))):=by
     rw[Hid,dw,if_neg (by omega),if_neg (by omega),if_pos rfl,ah];congr 1;simp;omega
    cases c:(n==0)<;>rw[c]at a<;>
    ·go_enter Tryz.func195,Tryz.ntmps195
     go_wp2_with fail
     go_ret;exact⟨by rw[a.out];rfl,b⟩
   ·by_cases i:k=3
    ·subst i;have a:Hid (dw 3 n s.toList=(((n==0)||(n==1))&&s.toList.isEmpty)):=by rw[Hid,dw,if_neg (by omega),if_neg (by omega),if_neg (by omega),if_pos rfl]
     cases c:(n==0)<;>cases m:(n==1)<;>rw[c,m]at a<;>
     ·go_enter Tryz.func195,Tryz.ntmps195
      go_wp2_with fail
      go_ret;exact⟨by rw[a.out];rfl,b⟩
    ·have a:Hid (dw k n s.toList=false):=by rw[Hid,dw,if_neg f,if_neg g,if_neg h,if_neg i]
     have o:(k==0)=false:=by simpa using f
     have p:(k==1)=false:=by simpa using g
     have q:(k==2)=false:=by simpa using h
     have r:(k==3)=false:=by simpa using i
     go_enter Tryz.func195,Tryz.ntmps195
     go_wp2_with fail
     go_ret;exact⟨by rw[a.out];rfl,b⟩
abbrev aj:=Int × Int × Bs
def bV(c:aj)(t:Int):Bool:=dw c.1 c.2.1 c.2.2&&((c.1==0)||(c.1==t))
theorem Oy(k n:Int)(l:Bs)(t:Int)(w:World):Calls prog 125 #[.agg #[.int .i64 k,.int .i64 n,.string (aa l)],.int .i64 t] w λe w'=>e=.returned (.bool (bV (k,n,l) t))/\Below w.heap.size w w':=by
 have a:=ae w (.cells #[.int .i64 k,.int .i64 n,.string (aa l)] 56);have f:∀x:World,Calls prog 195 #[.agg #[.int .i64 k,.int .i64 n,.string (aa l)]] x λe w'=>e=.returned (.bool (dw k n l))/\Below x.heap.size x w':=by
  intro x;have:=IP k n (aa l) x;rw[au]at this;exact this
 have c:Hid (bV (k,n,l) t=(dw k n l&&((k==0)||(k==t)))):=rfl;obtain⟨d,j⟩:∃d,d=dw k n l:=⟨_,rfl⟩;rw[<-j]at f c;clear j;have b:∀w2:World,Below (w.alloc (.cells #[.int .i64 k,.int .i64 n,.string (aa l)] 56)).heap.size (w.alloc (.cells #[.int .i64 k,.int .i64 n,.string (aa l)] 56)) w2->w2.cell? ⟨w.heap.size,0,none⟩=some (.int .i64 k)/\w2.cell? ⟨w.heap.size,1,none⟩=some (.int .i64 n)/\w2.cell? ⟨w.heap.size,2,none⟩=some (.string (aa l)):=by
  intro w2 h;have hb:=(h.block w.heap.size (by simp[World.size_alloc])).trans (heap_alloc_new w _);exact⟨(af hb).trans rfl,(af hb).trans rfl,(af hb).trans rfl⟩
 cases d
 ·go_enter Tryz.func125,Tryz.ntmps125
  go_wp2_with(go_at_call 195;refine(f _).mono ?_;rintro e w2 ⟨rfl,hb2⟩)
  go_ret;exact⟨by rw[c.out];rfl,a.trans (hb2.mono a.size)⟩
 ·cases g:(k==0)
  ·rw[g]at c;go_enter Tryz.func125,Tryz.ntmps125
   go_wp2_with(first
    |(go_at_call 195;refine(f _).mono ?_;rintro e w2 ⟨rfl,hb2⟩;obtain⟨a0,a1,a2⟩:=b w2 hb2)
    |(go_at_call 196;refine(kL _ _ _ _).mono ?_;rw[g];rintro e i ⟨rfl,hb3⟩;obtain⟨b0,b1,b2⟩:=b i (hb2.trans (hb3.mono hb2.size))))
   go_ret;exact⟨by rw[c.out];rfl,(a.trans (hb2.mono a.size)).trans (hb3.mono (Nat.le_trans a.size hb2.size))⟩
  ·rw[g]at c;go_enter Tryz.func125,Tryz.ntmps125
   go_wp2_with(first
    |(go_at_call 195;refine(f _).mono ?_;rintro e w2 ⟨rfl,hb2⟩;obtain⟨a0,a1,a2⟩:=b w2 hb2)
    |(go_at_call 196;refine(kL _ _ _ _).mono ?_;rw[g];rintro e i ⟨rfl,hb3⟩;obtain⟨b0,b1,b2⟩:=b i (hb2.trans (hb3.mono hb2.size))))
   go_ret;exact⟨by rw[c.out];rfl,(a.trans (hb2.mono a.size)).trans (hb3.mono (Nat.le_trans a.size hb2.size))⟩
def aO(w:World)(v:Value)(cs:List aj):Prop:=∃ao cap,v=.slice ao cs.length cap/\cs.length<=maxLen/\(cs= []\/∃b off,ao=some ⟨b,off,none⟩/\b<w.heap.size/\∀(i:Nat) (c:aj),cs[i]? =some c->
 w.cell? ⟨b,off+i*3,none⟩=some (.int .i64 c.1)/\w.cell? ⟨b,off+i*3+1,none⟩=some (.int .i64 c.2.1)/\w.cell? ⟨b,off+i*3+2,none⟩=some (.string (aa c.2.2)))
theorem aO.ag{w x:World}{v:Value}{cs:List aj}(h:aO w v cs)(hb:Below w.heap.size w x):aO x v cs:=by
 obtain⟨d,cap,j,k,l⟩:=h;refine⟨d,cap,j,k, ?_⟩;rcases l with h|⟨b,off,e,hl,hc⟩
 ·exact .inl h
 ·refine .inr ⟨b,off,e,by have:=hb.size;omega,λi f m=> ?_⟩;obtain⟨a,g,c⟩:=hc i f m;exact⟨(hb.cell (p:=⟨b,_,none⟩) hl).trans a,(hb.cell (p:=⟨b,_,none⟩) hl).trans g,(hb.cell (p:=⟨b,_,none⟩) hl).trans c⟩
theorem Lu(w:World)(b cap:Nat)(a:List Int)(r:a.length<=100)(h:∀j u,a[j]? =some u->w.cell? ⟨b,j,none⟩=some (.int .i64 u)):
  Calls prog 230 #[.slice (some ⟨b,0,none⟩) a.length cap] w λe w'=>e=.returned (.int .i64 (aK a))/\w'=w:=by
 go_enter Tryz.func230,Tryz.ntmps230
 go_wp2_with fail
 go_loopw [8] (λm o=>∃i:Nat,i<=a.length/\m=.int .i64 i/\o=w/\Hid (aK a=aK (a.drop i))) (λm _=>a.length- (intOf m).toNat)
 case atStart=>exact⟨0,Nat.zero_le _,rfl,rfl,rfl⟩
 case round=>
  obtain⟨i,p,rfl,rfl,c⟩:=hrel;by_cases g:i<a.length
  ·have q:=h i a[i] (List.getElem?_eq_getElem g);have k:a.drop i=a[i]::a.drop (i+1):=List.drop_eq_getElem_cons g;by_cases f:a[i]=0
   ·have d:Hid (aK a=aK (a.drop (i+1))):=by rw[Hid,c.out,k,aK,if_pos f]
    rw[f]at q;clear c h k
    go_wp2_with fail
    go_roundw
    case rel=>exact⟨i+1,by omega,by go_num,by trivial,d⟩
    case measure=>simp[intOf];omega
   ·have d:Hid (aK a=a[i]):=by rw[Hid,c.out,k,aK,if_neg f]
    have l:(a[i]==0)=false:=by simpa using f
    obtain⟨u,n⟩:∃u,u=a[i]:=⟨_,rfl⟩;rw[<-n]at q d l f;clear c h k n
    go_wp2_with fail
    go_ret;exact⟨by rw[d.out];rfl,rfl⟩
  ·have d:Hid (aK a=0):=by rw[Hid,c.out,List.drop_of_length_le (by omega)];rfl
   clear c h
   go_wp2_with fail
   go_ret;exact⟨by rw[d.out];rfl,rfl⟩
def sK(a b:aj):Int:=aK [Lib.compareInt a.1 b.1,Lib.compareInt a.2.1 b.2.1,Lib.compareBytes a.2.2 b.2.2]
theorem rz{x:World}{b:Nat}{a0 a1 a2:Value}{T:TypeId}(h:x.heap[b]? =some (.cells #[a0,a1,a2] T (0,0))):
  (x.cell? ⟨b,0,none⟩=some a0/\x.cell? ⟨b,1,none⟩=some a1/\x.cell? ⟨b,2,none⟩=some a2)/\(x.frozen? ⟨b,0,none⟩=false/\x.frozen? ⟨b,1,none⟩=false/\x.frozen? ⟨b,2,none⟩=false):=by
 simp[World.cell?,World.frozen?,h]
def ku(c:aj):Bs:=if c.1=1 then Lib.itoa c.2.1 else if c.1=2 then 39::(c.2.2++ [39])else if c.1=3 then Lib.formatBool (c.2.1==1)else [45]
end Go.Proofs.YtdifpeaklamhnaaGreatDoor
