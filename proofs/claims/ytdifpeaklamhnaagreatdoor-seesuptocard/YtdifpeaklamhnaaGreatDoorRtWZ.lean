import Derived.Test.YtdifpeaklamhnaaGreatDoorRtOZ
import Derived.Test.YtdifpeaklamhnaaGreatDoorAtDZ
set_option linter.unusedVariables false
set_option linter.unusedSimpArgs false
set_option maxRecDepth 100000
set_option maxHeartbeats 0
namespace Go.Proofs.YtdifpeaklamhnaaGreatDoor
open Go.Proofs.Tryz
open Go.RowKit
open List (drop_eq_getElem_cons drop_of_length_le getElem?_eq_getElem all_cons)
open Below (refl)
open Value (slice)
open World (size_alloc size_drew)
def yj(w:World)(v:Value)(ns:List Bs):Prop:=∃ao cap,v=.slice ao ns.length cap/\ns.length<=1000/\(ns= []\/∃b,ao=some ⟨b,0,none⟩/\b<w.heap.size/\∀(i:Nat) (n:Bs),ns[i]? =some n->w.cell? ⟨b,i*6,none⟩=some (.string (aa n)))
def iO(ns:List Bs)(l:Bs)(i:Nat):Option Nat:=((ns.drop i).findIdx? (λn=>n==l)).map (· +i)
theorem Dn(ns:List Bs)(l:Bs):iO ns l 0=ns.findIdx? (λn=>n==l):=by
 unfold iO;simp
theorem GR{ns:List Bs}{l:Bs}{i:Nat}(a:i<ns.length)(h:(ns[i]==l)=true):iO ns l i=some i:=by
 unfold iO;rw[drop_eq_getElem_cons a,List.findIdx?_cons,h];simp
theorem Dm{ns:List Bs}{l:Bs}{i:Nat}(a:i<ns.length)(h:(ns[i]==l)=false):iO ns l i=iO ns l (i+1):=by
 unfold iO;rw[drop_eq_getElem_cons a,List.findIdx?_cons,h];simp only[Bool.false_eq_true,if_false,Option.map_map];congr 1;funext x;simp;omega
theorem GQ{ns:List Bs}{l:Bs}{i:Nat}(a:ns.length<=i):iO ns l i=none:=by
 unfold iO;rw[drop_of_length_le a];rfl
theorem uQ(w:World)(r:Nat)(c:Option Addr)(q p:Nat)(ns:List Bs)(z:w.cell? ⟨r,1,none⟩=some (.slice c q p))(h:yj w (.slice c q p) ns)(l:Bs):
  Calls prog 79 #[.pointer (some ⟨r,0,none⟩),.string (aa l)] w λe w'=>e=.returned (.int .i64 (zJ (ns.findIdx? (λn=>n==l))))/\Below w.heap.size w w':=by
 obtain⟨u,cap,j,v,o⟩:=h
 cases j;have f:Hid _:=Dn ns l;have k:Hid _:=o;clear o;go_enter Tryz.func79,Tryz.ntmps79
 go_wp2_with fail
 go_loop [5] (λt=>∃i:Nat,i<=ns.length/\t=.int .i64 i/\Hid (iO ns l 0=iO ns l i)) (λi=>ns.length- (intOf i).toNat)
 case atStart=>exact⟨0,Nat.zero_le _,rfl,rfl⟩
 case round=>
  obtain⟨i,x,rfl,d⟩:=hrel;by_cases a:i<ns.length
  ·obtain⟨b,rfl,hb,m⟩:∃b,c=some ⟨b,0,none⟩/\b<w.heap.size/\∀(i:Nat) (n:Bs),ns[i]? =some n->w.cell? ⟨b,i*6,none⟩=some (.string (aa n)):=by
    rcases k.out with h|h
    ·subst h;simp at a
    ·exact h
   have A:=m i ns[i] (getElem?_eq_getElem a);have y:(aa ns[i]).toList=ns[i]:=au _;have s:(aa l).toList=l:=au _;clear m k
   cases j:(ns[i]==l)with
   |true=>
    have g:Hid (ns.findIdx? (λn=>n==l)=some i):=by rw[Hid,<-f.out,d.out,GR a j]
    clear f d
    go_wp2_with fail
    go_ret;exact⟨by rw[g.out];rfl,refl _ _⟩
   |false=>
    have g:Hid (iO ns l 0=iO ns l (i+1)):=by rw[Hid,d.out,Dm a j]
    clear f d
    go_wp2_with fail
    go_round
    case rel=>exact⟨i+1,by omega,by go_num,g⟩
    case measure=>simp[intOf];omega
  ·have g:Hid (ns.findIdx? (λn=>n==l)=none):=by rw[Hid,<-f.out,d.out,GQ (by omega)]
   clear f d k
   go_wp2_with fail
   go_ret;exact⟨by rw[g.out];rfl,refl _ _⟩
theorem Gg(k n:Int)(s:ByteArray)(w:World):Calls prog 74 #[.agg #[.int .i64 k,.int .i64 n,.string s],.int .u8 110] w λe w'=>e=.returned (.bool (bV (k,n,s.toList) 1))/\Below w.heap.size w w':=by
 have b:=ae w (.cells #[.int .i64 k,.int .i64 n,.string s] 56);by_cases c:k=0
 ·subst c;have a:Hid (bV (0,n,s.toList) 1=((n==0)&&s.toList.isEmpty)):=by
   rw[Hid,bV,dw,if_pos rfl];simp
  cases j:(n==0)<;>rw[j]at a<;>
  ·go_enter Tryz.func74,Tryz.ntmps74
   go_wp2_with fail
   go_ret;exact⟨by rw[a.out];rfl,b⟩
 ·by_cases d:k=1
  ·subst d;have a:Hid (bV (1,n,s.toList) 1=(s.toList.isEmpty&&(decide (-1000000000<=n)&&decide (n<=1000000000)))):=by
    rw[Hid,bV,dw,if_neg (by omega),if_pos rfl,aY]
    cases s.toList.isEmpty<;>simp
   cases i:s.toList.isEmpty<;>cases h:decide (-1000000000<=n)<;>cases hb:decide (n<=1000000000)<;>rw[i,h,hb]at a<;>
   ·go_enter Tryz.func74,Tryz.ntmps74
    go_wp2_with fail
    go_ret;exact⟨by rw[a.out];rfl,b⟩
  ·by_cases f:k=2
   ·subst f;have a:Hid (bV (2,n,s.toList) 1=false):=by rw[Hid,bV];simp
    ·go_enter Tryz.func74,Tryz.ntmps74
     go_wp2_with fail
     go_ret;exact⟨by rw[a.out];rfl,b⟩
   ·by_cases g:k=3
    ·subst g;have a:Hid (bV (3,n,s.toList) 1=false):=by rw[Hid,bV];simp
     ·go_enter Tryz.func74,Tryz.ntmps74
      go_wp2_with fail
      go_ret;exact⟨by rw[a.out];rfl,b⟩
    ·have a:Hid (bV (k,n,s.toList) 1=false):=by rw[Hid,bV,dw,if_neg c,if_neg d,if_neg f,if_neg g];rfl
     have l:(k==0)=false:=by simpa using c
     have m:(k==1)=false:=by simpa using d
     have o:(k==2)=false:=by simpa using f
     have p:(k==3)=false:=by simpa using g
     go_enter Tryz.func74,Tryz.ntmps74
     go_wp2_with fail
     go_ret;exact⟨by rw[a.out];rfl,b⟩
theorem Gh(k n:Int)(s:ByteArray)(w:World):Calls prog 74 #[.agg #[.int .i64 k,.int .i64 n,.string s],.int .u8 116] w λe w'=>e=.returned (.bool (bV (k,n,s.toList) 2))/\Below w.heap.size w w':=by
 have b:=ae w (.cells #[.int .i64 k,.int .i64 n,.string s] 56);by_cases c:k=0
 ·subst c;have a:Hid (bV (0,n,s.toList) 2=((n==0)&&s.toList.isEmpty)):=by
   rw[Hid,bV,dw,if_pos rfl];simp
  cases h:(n==0)<;>rw[h]at a<;>
  ·go_enter Tryz.func74,Tryz.ntmps74
   go_wp2_with fail
   go_ret;exact⟨by rw[a.out];rfl,b⟩
 ·by_cases d:k=1
  ·subst d;have a:Hid (bV (1,n,s.toList) 2=false):=by rw[Hid,bV];simp
   ·go_enter Tryz.func74,Tryz.ntmps74
    go_wp2_with fail
    go_ret;exact⟨by rw[a.out];rfl,b⟩
  ·by_cases f:k=2
   ·subst f;have a:Hid (bV (2,n,s.toList) 2=((n==0)&&decide ((s.size:Int)<=30))):=by
     have e:decide (s.toList.length<=30)=decide ((s.size:Int)<=30):=by rw[ah];simp;omega
     rw[Hid,bV,dw,if_neg (by omega),if_neg (by omega),if_pos rfl,e];simp
    cases h:(n==0)<;>cases hb:decide ((s.size:Int)<=30)<;>rw[h,hb]at a<;>
    ·go_enter Tryz.func74,Tryz.ntmps74
     go_wp2_with fail
     go_ret;exact⟨by rw[a.out];rfl,b⟩
   ·by_cases g:k=3
    ·subst g;have a:Hid (bV (3,n,s.toList) 2=false):=by rw[Hid,bV];simp
     ·go_enter Tryz.func74,Tryz.ntmps74
      go_wp2_with fail
      go_ret;exact⟨by rw[a.out];rfl,b⟩
    ·have a:Hid (bV (k,n,s.toList) 2=false):=by rw[Hid,bV,dw,if_neg c,if_neg d,if_neg f,if_neg g];rfl
     have i:(k==0)=false:=by simpa using c
     have j:(k==1)=false:=by simpa using d
     have l:(k==2)=false:=by simpa using f
     have m:(k==3)=false:=by simpa using g
     go_enter Tryz.func74,Tryz.ntmps74
     go_wp2_with fail
     go_ret;exact⟨by rw[a.out];rfl,b⟩
theorem Gf(k n:Int)(s:ByteArray)(w:World):Calls prog 74 #[.agg #[.int .i64 k,.int .i64 n,.string s],.int .u8 98] w λe w'=>e=.returned (.bool (bV (k,n,s.toList) 3))/\Below w.heap.size w w':=by
 have b:=ae w (.cells #[.int .i64 k,.int .i64 n,.string s] 56);by_cases c:k=0
 ·subst c;have a:Hid (bV (0,n,s.toList) 3=((n==0)&&s.toList.isEmpty)):=by
   rw[Hid,bV,dw,if_pos rfl];simp
  cases h:(n==0)<;>rw[h]at a<;>
  ·go_enter Tryz.func74,Tryz.ntmps74
   go_wp2_with fail
   go_ret;exact⟨by rw[a.out];rfl,b⟩
 ·by_cases d:k=1
  ·subst d;have a:Hid (bV (1,n,s.toList) 3=false):=by rw[Hid,bV];simp
   ·go_enter Tryz.func74,Tryz.ntmps74
    go_wp2_with fail
    go_ret;exact⟨by rw[a.out];rfl,b⟩
  ·by_cases f:k=2
   ·subst f;have a:Hid (bV (2,n,s.toList) 3=false):=by rw[Hid,bV];simp
    ·go_enter Tryz.func74,Tryz.ntmps74
     go_wp2_with fail
     go_ret;exact⟨by rw[a.out];rfl,b⟩
   ·by_cases g:k=3
    ·subst g;have a:Hid (bV (3,n,s.toList) 3=(s.toList.isEmpty&&((n==0)||(n==1)))):=by
      rw[Hid,bV,dw,if_neg (by omega),if_neg (by omega),if_neg (by omega),if_pos rfl]
      cases s.toList.isEmpty<;>simp
     cases i:s.toList.isEmpty<;>cases h:(n==0)<;>cases j:(n==1)<;>rw[i,h,j]at a<;>
     ·go_enter Tryz.func74,Tryz.ntmps74
      go_wp2_with fail
      go_ret;exact⟨by rw[a.out];rfl,b⟩
    ·have a:Hid (bV (k,n,s.toList) 3=false):=by rw[Hid,bV,dw,if_neg c,if_neg d,if_neg f,if_neg g];rfl
     have l:(k==0)=false:=by simpa using c
     have m:(k==1)=false:=by simpa using d
     have o:(k==2)=false:=by simpa using f
     have p:(k==3)=false:=by simpa using g
     go_enter Tryz.func74,Tryz.ntmps74
     go_wp2_with fail
     go_ret;exact⟨by rw[a.out];rfl,b⟩
theorem Ag(k n:Int)(s:ByteArray)(c:UInt8)(a:dP c=true)(w:World):Calls prog 74 #[.agg #[.int .i64 k,.int .i64 n,.string s],.int .u8 (c.toNat:Int)] w λe w'=>e=.returned (.bool (bV (k,n,s.toList) (iT c.toNat)))/\Below w.heap.size w w':=by
 unfold dP at a;simp only[Bool.or_eq_true,beq_iff_eq]at a;rcases a with(rfl|rfl)|rfl
 ·exact Gg k n s w
 ·exact Gh k n s w
 ·exact Gf k n s w
theorem Og(l n:Bs)(d:Int):(fH (n,l,d)==0)= !(l.all dP&&decide (l.length=1)):=by
 match l with
 | []=>rfl
 | [c]=>
  show(iT c.toNat==0)= !(([c]:Bs).all dP&&true);simp only[all_cons,List.all_nil,Bool.and_true]
  cases h:dP c with
  |true=>
   have:=(kH h).1;rw[show(!true)=false from rfl,beq_eq_false_iff_ne];rcases this with e|e|e<;>rw[e]<;>decide
  |false=>
   unfold dP at h;simp only[Bool.or_eq_false_iff,beq_eq_false_iff_ne]at h;have f:¬((c.toNat:Int)=110):=λe=>h.1.1 (UInt8.toNat_inj.mp (by simpa using Int.ofNat.inj e));have g:¬((c.toNat:Int)=116):=λe=>h.1.2 (UInt8.toNat_inj.mp (by simpa using Int.ofNat.inj e));have i:¬((c.toNat:Int)=98):=λe=>h.2 (UInt8.toNat_inj.mp (by simpa using Int.ofNat.inj e));simp[iT,f,g,i]
 |a::b::r=>simp[fH]
theorem kY(c:dL):jX c=(aU c.1&&(c.2.1.all dP&&decide (c.2.1.length=1))&&decide (1<=c.2.2)&&decide (c.2.2<=1000000)):=by
 obtain⟨n,l,d⟩:=c;rw[jX,Og];simp
theorem EW{t:aJ}(h:¬(1<=t.ax.length/\t.ax.length<=4/\0<=t.count/\t.count<=1000000/\t.rows.length<=10)):bJ t=false:=by
 cases hb:bJ t with
 |false=>rfl
 |true=>
  exfalso;apply h;unfold bJ bG fe at hb;simp only[Bool.and_eq_true,Bool.not_eq_true',Bool.or_eq_false_iff,decide_eq_false_iff_not,decide_eq_true_eq]at hb;omega
theorem EX{t:aJ}(h:1<=t.ax.length/\t.ax.length<=4/\0<=t.count/\t.count<=1000000/\t.rows.length<=10):bJ t=(bT [] t.ax&&t.rows.all λr=>fQ r t.ax):=by
 obtain⟨c,d,a,b,e⟩:=h;unfold bJ bG fe;rw[decide_eq_false (by omega),decide_eq_false (by omega),decide_eq_true a,decide_eq_true b,decide_eq_false (by omega)];simp
theorem zm(w:World)(t:aJ)(co:Option Addr)(cc:Nat)(ro:Option Addr)(rc:Nat)(uo:Option Addr)(un uc:Nat)
  (h:¬(1<=t.ax.length/\t.ax.length<=4/\0<=t.count/\t.count<=1000000/\t.rows.length<=10)):
  Calls prog 120 #[.agg #[.string (aa t.name),.slice co t.ax.length cc,.slice ro t.rows.length rc,.int .i64 t.count,.string (aa t.aD),.slice uo un uc]] w λe w'=>e=.returned (.bool (bJ t))/\Below w.heap.size w w':=by
 have i:Hid (bJ t=false):=EW h;have a:=ae w (.cells #[.string (aa t.name),.slice co t.ax.length cc,.slice ro t.rows.length rc,.int .i64 t.count,.string (aa t.aD),.slice uo un uc] 54);obtain⟨g,c⟩:∃n,n=t.ax.length:=⟨_,rfl⟩;obtain⟨l,d⟩:∃n,n=t.rows.length:=⟨_,rfl⟩;obtain⟨f,b⟩:∃n,n=t.count:=⟨_,rfl⟩;rw[<-c,<-d,<-b]at h ⊢;rw[<-c,<-d,<-b]at a;clear c d b;by_cases m:g<1
 ·have d1:decide ((g:Int)<1)=true:=by simp;omega
  go_enter Tryz.func120,Tryz.ntmps120
  go_wp2_with fail
  go_ret;exact⟨ay i.out.symm,a⟩
 ·have d1:decide ((g:Int)<1)=false:=by simp;omega
  by_cases o:4<g
  ·have d2:decide ((4:Int)<(g:Int))=true:=by simp;omega
   go_enter Tryz.func120,Tryz.ntmps120
   go_wp2_with fail
   go_ret;exact⟨ay i.out.symm,a⟩
  ·have d2:decide ((4:Int)<(g:Int))=false:=by simp;omega
   by_cases j:f<0
   ·have d3:decide (f<0)=true:=decide_eq_true j;go_enter Tryz.func120,Tryz.ntmps120
    go_wp2_with fail
    go_ret;exact⟨ay i.out.symm,a⟩
   ·have d3:decide (f<0)=false:=decide_eq_false j;by_cases k:1000000<f
    ·have d4:decide (1000000<f)=true:=decide_eq_true k;go_enter Tryz.func120,Tryz.ntmps120
     go_wp2_with fail
     go_ret;exact⟨ay i.out.symm,a⟩
    ·have d4:decide (1000000<f)=false:=decide_eq_false k;have d5:decide ((10:Int)<(l:Int))=true:=by simp;omega
     go_enter Tryz.func120,Tryz.ntmps120
     go_wp2_with fail
     go_ret;exact⟨ay i.out.symm,a⟩
theorem oD{c:dL}{a r:List dL}(h:jX c=false):bT a (c::r)=false:=by rw[bT,h];rfl
theorem Od{c:dL}{a r:List dL}(h:iA c.1 a=true):bT a (c::r)=false:=by
 rw[bT,h];simp
theorem Oe{c:dL}{a r:List dL}(h:jX c=true)(b:iA c.1 a=false):bT a (c::r)=bT (a++ [c]) r:=by
 rw[bT,h,b];simp
theorem xQ(w:World)(t:aJ)(co:Option Addr)(cc:Nat)(ro:Option Addr)(rc:Nat)(uo:Option Addr)(un uc:Nat)(hC:dM w (.slice co t.ax.length cc) t.ax)(hR:RowsIn w (.slice ro t.rows.length rc) t.rows)
  (h:1<=t.ax.length/\t.ax.length<=4/\0<=t.count/\t.count<=1000000/\t.rows.length<=10):
  Calls prog 120 #[.agg #[.string (aa t.name),.slice co t.ax.length cc,.slice ro t.rows.length rc,.int .i64 t.count,.string (aa t.aD),.slice uo un uc]] w λe w'=>e=.returned (.bool (bJ t))/\Below w.heap.size w w':=by
 have HF:Hid (bJ t=(bT [] t.ax&&t.rows.all λr=>fQ r t.ax)):=EX h;obtain⟨h1,h2,h3,h4,h5⟩:=h;have d1:decide ((t.ax.length:Int)<1)=false:=by simp;omega
 have d2:decide ((4:Int)<(t.ax.length:Int))=false:=by simp;omega
 have d3:decide (t.count<0)=false:=decide_eq_false (by omega);have d4:decide (1000000<t.count)=false:=decide_eq_false (by omega);have d5:decide ((10:Int)<(t.rows.length:Int))=false:=by simp;omega
 obtain⟨W,hW⟩:∃W,W=w.alloc (.cells #[.string (aa t.name),.slice co t.ax.length cc,.slice ro t.rows.length rc,.int .i64 t.count,.string (aa t.aD),.slice uo un uc] 54):=⟨_,rfl⟩;have H:Hid (w.alloc (.cells #[.string (aa t.name),.slice co t.ax.length cc,.slice ro t.rows.length rc,.int .i64 t.count,.string (aa t.aD),.slice uo un uc] 54)=W):=hW.symm;have a4:Below w.heap.size w W:=by rw[hW];exact ae w _
 have b8:W.heap[w.heap.size]? =some (.cells #[.string (aa t.name),.slice co t.ax.length cc,.slice ro t.rows.length rc,.int .i64 t.count,.string (aa t.aD),.slice uo un uc] 54 (0,0)):=by rw[hW];exact heap_alloc_new w _
 have m2:W.heap.size=w.heap.size+1:=by rw[hW];simp[size_alloc]
 have u:∀x:World,Below W.heap.size W x->x.cell? ⟨w.heap.size,1,none⟩=some (.slice co t.ax.length cc)/\x.cell? ⟨w.heap.size,2,none⟩=some (.slice ro t.rows.length rc)/\w.heap.size<x.heap.size:=by
  intro x O;have b0:=(O.block w.heap.size (by omega)).trans b8;have:=O.size;exact⟨(af b0).trans rfl,(af b0).trans rfl,by omega⟩
 obtain⟨ao,cap,he,c8,j3,hz⟩:=hC
 cases he;obtain⟨b,a,rfl,hb,hc⟩:∃b a,co=some ⟨b,a,none⟩/\b<w.heap.size/\∀(i:Nat) (c:dL),t.ax[i]? =some c->(w.cell? ⟨b,a+i*3,none⟩=some (.string (aa c.1))/\w.cell? ⟨b,a+i*3+1,none⟩=some (.string (aa c.2.1))/\w.cell? ⟨b,a+i*3+2,none⟩=some (.int .i64 c.2.2))/\c.1.length<=maxLen/\c.2.1.length<=maxLen:=by
  rcases hz with h|h
  ·rw[h]at h1;simp at h1
  ·exact h
 obtain⟨nc,a1⟩:∃n,n=t.ax.length:=⟨_,rfl⟩;obtain⟨nr,a9⟩:∃n,n=t.rows.length:=⟨_,rfl⟩;rw[<-a1]at h1 h2 d1 d2 b8 H ⊢;rw[<-a9]at h5 d5 b8 H ⊢;simp only[<-a1,<-a9]at u;rw[<-a1]at c8;have T:Hid _:=a1;have c6:Hid _:=a9;have HC:Hid _:=hc;have HR:Hid _:=hR;clear hW a1 a9 hz j3 hc hR;go_enter Tryz.func120,Tryz.ntmps120
 go_wp2_with fail
 rw[H.out];clear H;go_loopg [3] nc (λgk iv wr=>∃i:Nat,gk=nc- i/\i<=nc/\iv=.int .i64 i/\Below W.heap.size W wr/\Hid (bT [] t.ax=bT (t.ax.take i) (t.ax.drop i)))
 case atStart=>exact⟨0,rfl,Nat.zero_le _,rfl,refl _ _,rfl⟩
 case round=>
  obtain⟨i,X,hi,rfl,F,P⟩:=hrel;subst X;generalize k3:wr=wo at*;clear k3;obtain⟨y1,y2,M⟩:=u wo F;have k2:=F.size;have g:Below w.heap.size w wo:=a4.trans (F.mono a4.size);by_cases l9:i<nc
  ·have Z:i<t.ax.length:=by have:=T.out;omega
   obtain⟨c,y⟩:∃c,c=t.ax[i]:=⟨_,rfl⟩;obtain⟨⟨p0,p1,p2⟩,j4,j5⟩:=HC.out i c (by rw[y];exact getElem?_eq_getElem Z);have q0:=(g.cell (p:=⟨b,a+i*3,none⟩) hb).trans p0;have q1:=(g.cell (p:=⟨b,a+i*3+1,none⟩) hb).trans p1;have q2:=(g.cell (p:=⟨b,a+i*3+2,none⟩) hb).trans p2;have l5:b<wo.heap.size:=by have:=g.size;omega
   have hd:t.ax.drop i=c::t.ax.drop (i+1):=by rw[y];exact drop_eq_getElem_cons Z
   have h6:t.ax.take (i+1)=t.ax.take i++ [c]:=by rw[List.take_succ_eq_append_getElem Z,<-y]
   rw[hd]at P;have A:∀x:World,Calls prog 112 #[.string (aa c.1)] x λe w'=>e=.returned (.bool (aU c.1))/\w'=x:=by
    intro x;have:=gG (aa c.1) x (by rw[aF];exact j4);rw[au]at this;exact this
   have z:∀x:World,Calls prog 116 #[.string (aa c.2.1)] x λe w'=>e=.returned (.bool (c.2.1.all dP))/\w'=x:=by
    intro x;have:=uR (aa c.2.1) x (by rw[aF];exact j5);rw[au]at this;exact this
   have s:=kY c;have J:(aa c.2.1).size=c.2.1.length:=aF _;obtain⟨wd,h8⟩:∃b,b=aU c.1:=⟨_,rfl⟩;obtain⟨ty,a3⟩:∃b,b=c.2.1.all dP:=⟨_,rfl⟩;rw[<-h8]at A s;rw[<-a3]at z s;have L:Hid _:=s;have i7:Hid _:=h6;clear h8 a3 s y hd h6 p0 p1 p2
   cases wd with
   |false=>
    have k:Hid (bJ t=false):=by rw[Hid,HF.out,P.out,oD (by rw[L.out];rfl)];rfl
    go_wp2_with(first
     |(go_at_call 112;refine(A _).mono ?_;rintro e w5 ⟨rfl,rfl⟩)
     |(go_at_call 116;refine(z _).mono ?_;rintro e w5 ⟨rfl,rfl⟩))
    go_ret;exact⟨ay k.out.symm,g.alloc g.size _⟩
   |true=>
    cases ty with
    |false=>
     have k:Hid (bJ t=false):=by rw[Hid,HF.out,P.out,oD (by rw[L.out];rfl)];rfl
     go_wp2_with(first
      |(go_at_call 112;refine(A _).mono ?_;rintro e w5 ⟨rfl,rfl⟩)
      |(go_at_call 116;refine(z _).mono ?_;rintro e w5 ⟨rfl,rfl⟩))
     go_ret;exact⟨ay k.out.symm,g.alloc g.size _⟩
    |true=>
     by_cases a7:c.2.1.length=1
     ·have e1:(((aa c.2.1).size:Int) != 1)=false:=by rw[J,a7];rfl
      clear J;by_cases c0:c.2.2<1
      ·have e2:decide (c.2.2<1)=true:=decide_eq_true c0;have k:Hid (bJ t=false):=by rw[Hid,HF.out,P.out,oD (by rw[L.out];rw[decide_eq_false (show¬1<=c.2.2 by omega)];simp)];rfl
       go_wp2_with(first
        |(go_at_call 112;refine(A _).mono ?_;rintro e w5 ⟨rfl,rfl⟩)
        |(go_at_call 116;refine(z _).mono ?_;rintro e w5 ⟨rfl,rfl⟩))
       go_ret;exact⟨ay k.out.symm,g.alloc g.size _⟩
      ·have e2:decide (c.2.2<1)=false:=decide_eq_false c0;by_cases c1:1000000<c.2.2
       ·have e3:decide (1000000<c.2.2)=true:=decide_eq_true c1;have k:Hid (bJ t=false):=by rw[Hid,HF.out,P.out,oD (by rw[L.out];rw[decide_eq_false (show¬c.2.2<=1000000 by omega)];simp)];rfl
        go_wp2_with(first
         |(go_at_call 112;refine(A _).mono ?_;rintro e w5 ⟨rfl,rfl⟩)
         |(go_at_call 116;refine(z _).mono ?_;rintro e w5 ⟨rfl,rfl⟩))
        go_ret;exact⟨ay k.out.symm,g.alloc g.size _⟩
       ·have e3:decide (1000000<c.2.2)=false:=decide_eq_false c1;have i0:Hid (jX c=true):=by
         rw[Hid,L.out,decide_eq_true a7,decide_eq_true (show 1<=c.2.2 by omega),decide_eq_true (show c.2.2<=1000000 by omega)];rfl
        have U:=ae wo (.cells #[.string (aa c.1),.string (aa c.2.1),.int .i64 c.2.2] 50);have c9:=heap_alloc_new wo (.cells #[.string (aa c.1),.string (aa c.2.1),.int .i64 c.2.2] 50);have k0:(wo.alloc (.cells #[.string (aa c.1),.string (aa c.2.1),.int .i64 c.2.2] 50)).heap.size=wo.heap.size+1:=by simp[size_alloc]
        obtain⟨W2,b7⟩:∃W2,W2=wo.alloc (.cells #[.string (aa c.1),.string (aa c.2.1),.int .i64 c.2.2] 50):=⟨_,rfl⟩;have R:Hid (wo.alloc (.cells #[.string (aa c.1),.string (aa c.2.1),.int .i64 c.2.2] 50)=W2):=b7.symm;rw[<-b7]at U c9 k0;clear b7 a7 c0 c1
        go_wp2_with(first
         |(go_at_call 112;refine(A _).mono ?_;rintro e w5 ⟨rfl,rfl⟩)
         |(go_at_call 116;refine(z _).mono ?_;rintro e w5 ⟨rfl,rfl⟩))
        rw[R.out];clear R A z q0 q1 q2 y1 y2 e1 e2 e3;go_loopw [7] (λjv wx=>∃j:Nat,j<=i/\jv=.int .i64 j/\Below W2.heap.size W2 wx/\Hid (iA c.1 (t.ax.take i)=iA c.1 ((t.ax.take i).drop j))) (λjv _=>i- (intOf jv).toNat)
        case atStart=>exact⟨0,Nat.zero_le _,rfl,refl _ _,rfl⟩
        case round=>
         obtain⟨j,hj,rfl,v,K⟩:=hrel;generalize c4:wr=wj at*;clear c4;have b1:Below wo.heap.size wo wj:=U.trans (v.mono U.size);have Q:Below W.heap.size W wj:=F.trans (b1.mono F.size);have m:Below w.heap.size w wj:=g.trans (b1.mono g.size);obtain⟨y1,y2,l4⟩:=u wj Q;have l7:wj.cell? ⟨wo.heap.size,0,none⟩=some (.string (aa c.1)):=(af ((v.block wo.heap.size (by omega)).trans c9)).trans rfl;have k8:wo.heap.size<wj.heap.size:=by have:=v.size;omega
         have k6:b<wj.heap.size:=by omega
         by_cases j1:j<i
         ·have e5:j<t.ax.length:=by omega
          obtain⟨⟨p0,_,_⟩,_⟩:=HC.out j t.ax[j] (getElem?_eq_getElem e5);have q0:=(m.cell (p:=⟨b,a+j*3,none⟩) hb).trans p0;have Y:j<nc:=by omega
          have m0:(aa t.ax[j].1).toList=t.ax[j].1:=au _;have m1:(aa c.1).toList=c.1:=au _;have HD:Hid (iA c.1 ((t.ax.take i).drop j)=((t.ax[j].1==c.1)||iA c.1 ((t.ax.take i).drop (j+1)))):=by
           have j0:j<(t.ax.take i).length:=by rw[List.length_take];omega
           rw[Hid,drop_eq_getElem_cons j0];simp[iA,List.getElem_take]
          clear p0
          cases e4:(t.ax[j].1==c.1)with
          |true=>
           have k:Hid (bJ t=false):=by rw[Hid,HF.out,P.out,Od (by rw[K.out,HD.out,e4];rfl)];rfl
           clear HD K P
           go_wp2_with fail
           go_region;all_goals(try go_wp2_with fail)
           all_goals go_ret
           all_goals exact⟨ay k.out.symm,by first|exact m|exact m.drew⟩
          |false=>
           have b5:Hid (iA c.1 (t.ax.take i)=iA c.1 ((t.ax.take i).drop (j+1))):=by rw[Hid,K.out,HD.out,e4];rfl
           clear HD K
           go_wp2_with fail
           go_region;all_goals(try go_wp2_with fail)
           all_goals go_roundw
           case rel=>exact⟨j+1,by omega,by go_num,by first|exact v|exact v.drew,b5⟩
           case measure=>simp[intOf];omega
         ·have i2:Hid (bT [] t.ax=bT (t.ax.take (i+1)) (t.ax.drop (i+1))):=by
           have j2:iA c.1 (t.ax.take i)=false:=by rw[K.out,drop_of_length_le (by rw[List.length_take];omega)];rfl
           rw[Hid,P.out,Oe i0.out j2,i7.out]
          clear K P
          go_wp2_with fail
          go_roundg (nc- (i+1))
          case measure=>omega
          case rel=>exact⟨i+1,rfl,by omega,by go_num,Q,i2⟩
     ·have e1:(((aa c.2.1).size:Int) != 1)=true:=by rw[J];simp;omega
      clear J;have k:Hid (bJ t=false):=by rw[Hid,HF.out,P.out,oD (by rw[L.out];rw[decide_eq_false a7];rfl)];rfl
      go_wp2_with(first
       |(go_at_call 112;refine(A _).mono ?_;rintro e w5 ⟨rfl,rfl⟩)
       |(go_at_call 116;refine(z _).mono ?_;rintro e w5 ⟨rfl,rfl⟩))
      go_ret;exact⟨ay k.out.symm,g.alloc g.size _⟩
  ·have i9:i=nc:=by omega
   subst i9;have b9:bT [] t.ax=true:=by rw[P.out,drop_of_length_le (by have:=T.out;omega)];rfl
   have b3:Hid (∀c∈t.ax,jX c=true):=gZ t.ax [] b9;have b4:Hid (bJ t=t.rows.all λr=>fQ r t.ax):=by rw[Hid,HF.out,b9,Bool.true_and]
   obtain⟨m4,k9,j7,j8,g8⟩:=HR.out
   cases j7;have i5:Hid _:=g8;clear P HF HR b9 g8 j8
   go_wp2_with fail
   go_loopg [8] nr (λgk iv wx=>∃r:Nat,gk=nr- r/\r<=nr/\iv=.int .i64 r/\Below W.heap.size W wx/\Hid ((t.rows.all λr=>fQ r t.ax)=(t.rows.drop r).all λr=>fQ r t.ax))
   case atStart=>exact⟨0,rfl,Nat.zero_le _,rfl,F,rfl⟩
   case round=>
    clear F y1 y2 M k2 g;obtain⟨r,X,hr,rfl,a5,E⟩:=hrel;subst X;generalize k4:wr=wq at*;clear k4;obtain⟨y1,y2,M⟩:=u wq a5;have D:Below w.heap.size w wq:=a4.trans (a5.mono a4.size);by_cases l8:r<nr
    ·have I:r<t.rows.length:=by have:=c6.out;omega
     obtain⟨rb,o,rfl,e8,e9⟩:∃b a,ro=some ⟨b,a,none⟩/\b<w.heap.size/\∀(i:Nat) (r:List aj),t.rows[i]? =some r->∃ro rn rc,w.cell? ⟨b,a+i,none⟩=some (.slice ro rn rc)/\aO w (.slice ro rn rc) r:=by
      rcases i5.out with h|h
      ·rw[h]at I;simp at I
      ·exact h
     obtain⟨row,a2⟩:∃row,row=t.rows[r]:=⟨_,rfl⟩;obtain⟨so,sn,sc,p0,i8⟩:=e9 r row (by rw[a2];exact getElem?_eq_getElem I);obtain⟨m8,l0,k1,m3,h0⟩:=i8
     cases k1;have q0:=(D.cell (p:=⟨rb,o+r,none⟩) e8).trans p0;have k7:rb<wq.heap.size:=by have:=D.size;omega
     have S:Hid (((t.rows.drop r).all λr=>fQ r t.ax)=(fQ row t.ax&&(t.rows.drop (r+1)).all λr=>fQ r t.ax)):=by
      rw[Hid,drop_eq_getElem_cons I,all_cons,<-a2]
     have i6:Hid _:=h0;have i3:Hid _:=p0;clear e9 p0 a2 h0;by_cases a8:row.length=i
     ·have j6:((row.length:Int) != (i:Int))=false:=by rw[a8];simp
      have b6:Hid _:=a8;clear a8
      go_wp2_with fail
      go_region;all_goals(try go_wp2_with fail)
      go_loopg [9] i (λgk jv wx=>∃j:Nat,gk=i- j/\j<=i/\jv=.int .i64 j/\Below wq.heap.size wq wx/\Hid (fQ row t.ax=fQ (row.drop j) (t.ax.drop j)))
      case atStart=>exact⟨0,rfl,Nat.zero_le _,rfl,(refl _ wq).drew,rfl⟩
      case round=>
       clear y1 y2 M q0;obtain⟨j,X,hj,rfl,v,K⟩:=hrel;subst X;generalize c4:wr=wj at*;clear c4;have Q:Below W.heap.size W wj:=a5.trans (v.mono a5.size);have m:Below w.heap.size w wj:=D.trans (v.mono D.size);obtain⟨y1,y2,M⟩:=u wj Q;by_cases j1:j<i
       ·have Y:j<t.ax.length:=by have:=T.out;omega
        have N:j<row.length:=by have:=b6.out;omega
        obtain⟨c,y⟩:∃c,c=t.ax[j]:=⟨_,rfl⟩;obtain⟨⟨_,p1,_⟩,_⟩:=HC.out j c (by rw[y];exact getElem?_eq_getElem Y);have V:=b3.out c (by rw[y];exact List.getElem_mem Y);rw[kY]at V;simp only[Bool.and_eq_true,decide_eq_true_eq]at V;obtain⟨B,a6⟩:∃B,c.2.1= [B]:=by
         have:=V.1.1.2.2
         match c.2.1,this with
         | [B],_=>exact⟨B,rfl⟩
        have h7:dP B=true:=by have:=V.1.1.2.1;rw[a6]at this;simpa using this
        obtain⟨C,f,rfl,c3,g9⟩:∃b a,so=some ⟨b,a,none⟩/\b<w.heap.size/\∀(i:Nat) (c:aj),row[i]? =some c->w.cell? ⟨b,a+i*3,none⟩=some (.int .i64 c.1)/\w.cell? ⟨b,a+i*3+1,none⟩=some (.int .i64 c.2.1)/\w.cell? ⟨b,a+i*3+2,none⟩=some (.string (aa c.2.2)):=by
         rcases i6.out with h|h
         ·rw[h]at N;simp at N
         ·exact h
        obtain⟨q,G⟩:∃q,q=row[j]:=⟨_,rfl⟩;obtain⟨s0,s1,s2⟩:=g9 j q (by rw[G];exact getElem?_eq_getElem N);have t0:=(m.cell (p:=⟨C,f+j*3,none⟩) c3).trans s0;have t1:=(m.cell (p:=⟨C,f+j*3+1,none⟩) c3).trans s1;have t2:=(m.cell (p:=⟨C,f+j*3+2,none⟩) c3).trans s2;have u1:=(m.cell (p:=⟨b,a+j*3+1,none⟩) hb).trans p1;rw[a6,show aa [B]=⟨#[B]⟩from rfl]at u1;obtain⟨m7,m6,m5,h9,e0⟩:∃ro rn rc,w.cell? ⟨rb,o+r,none⟩=some (.slice ro rn rc)/\(slice ro rn rc=.slice (some ⟨C,f,none⟩) row.length sc):=⟨_,_,_,i3.out,rfl⟩
        cases e0;have q0:=(m.cell (p:=⟨rb,o+r,none⟩) e8).trans h9;have a0:C<wj.heap.size:=by have:=m.size;omega
        have e6:b<wj.heap.size:=by have:=m.size;omega
        have e7:rb<wj.heap.size:=by have:=m.size;omega
        have a3:fH c=iT B.toNat:=by obtain⟨n,l,d⟩:=c;have:l= [B]:=a6;subst this;rfl
        have HD:Hid (fQ (row.drop j) (t.ax.drop j)=(bV (q.1,q.2.1,q.2.2) (iT B.toNat)&&fQ (row.drop (j+1)) (t.ax.drop (j+1)))):=by
         rw[Hid,drop_eq_getElem_cons N,drop_eq_getElem_cons Y,fQ,<-G,<-y,a3]
        have c5:∀x:World,Below wj.heap.size wj x->Calls prog 74 #[.agg #[.int .i64 q.1,.int .i64 q.2.1,.string (aa q.2.2)],.int .u8 (B.toNat:Int)] x λe w'=>e=.returned (.bool (bV (q.1,q.2.1,q.2.2) (iT B.toNat)))/\Below wj.heap.size wj w':=by
         intro x O;have:=Ag q.1 q.2.1 (aa q.2.2) B h7 x;rw[au]at this;exact this.mono λe w' h=>⟨h.1,O.trans (h.2.mono O.size)⟩
        obtain⟨ok,c2⟩:∃b,b=bV (q.1,q.2.1,q.2.2) (iT B.toNat):=⟨_,rfl⟩;rw[<-c2]at HD;simp only[<-c2]at c5;have g0:j<row.length:=N;have b2:row.length=i:=b6.out;rw[b2]at q0;clear c2 a3 G y V p1 s0 s1 s2 h9 g9 h7 a6 g0 b2 N Y;go_upto_region 24 with fail
        go_cut [10] (λk5 wx=>k5=.bool ok/\Below wj.heap.size wj wx)
        case first=>
         have i1:∀x:World,Below wj.heap.size wj x->x.cell? ⟨w.heap.size,1,none⟩=some (.slice (some ⟨b,a,none⟩) i cc)/\x.cell? ⟨w.heap.size,2,none⟩=some (.slice (some ⟨rb,o,none⟩) nr rc)/\x.cell? ⟨rb,o+r,none⟩=some (.slice (some ⟨C,f,none⟩) i sc)/\x.cell? ⟨C,f+j*3,none⟩=some (.int .i64 q.1)/\x.cell? ⟨C,f+j*3+1,none⟩=some (.int .i64 q.2.1)/\x.cell? ⟨C,f+j*3+2,none⟩=some (.string (aa q.2.2))/\x.cell? ⟨b,a+j*3+1,none⟩=some (.string ⟨#[B]⟩):=λx O=>⟨(O.cell (p:=⟨w.heap.size,1,none⟩) M).trans y1,(O.cell (p:=⟨w.heap.size,2,none⟩) M).trans y2,(O.cell (p:=⟨rb,o+r,none⟩) e7).trans q0,(O.cell (p:=⟨C,f+j*3,none⟩) a0).trans t0,(O.cell (p:=⟨C,f+j*3+1,none⟩) a0).trans t1,(O.cell (p:=⟨C,f+j*3+2,none⟩) a0).trans t2,(O.cell (p:=⟨b,a+j*3+1,none⟩) e6).trans u1⟩
         go_region_held2 (λx=>x.cell? ⟨w.heap.size,1,none⟩=some (.slice (some ⟨b,a,none⟩) i cc)/\x.cell? ⟨w.heap.size,2,none⟩=some (.slice (some ⟨rb,o,none⟩) nr rc)/\x.cell? ⟨rb,o+r,none⟩=some (.slice (some ⟨C,f,none⟩) i sc)/\x.cell? ⟨C,f+j*3,none⟩=some (.int .i64 q.1)/\x.cell? ⟨C,f+j*3+1,none⟩=some (.int .i64 q.2.1)/\x.cell? ⟨C,f+j*3+2,none⟩=some (.string (aa q.2.2))/\x.cell? ⟨b,a+j*3+1,none⟩=some (.string ⟨#[B]⟩)) (go_keep) (first|(go_at_call 74;refine(c5 _ ?_).mono ?_;(first|exact refl _ wj|exact(refl _ wj).drew);rintro e w3 ⟨rfl,hb3⟩;obtain⟨g1,g2,g3,g4,g5,g6,g7⟩:=i1 w3 hb3))
         all_goals(go_wp2_with fail;go_meet)
         all_goals exact⟨rfl,by first|exact hb3|exact hb3.drew⟩
        case rest=>
         obtain⟨rfl,c7⟩:=hcut;have BF:Below w.heap.size w wc:=m.trans (c7.mono m.size);have BQ:Below wq.heap.size wq wc:=v.trans (c7.mono v.size)
         cases ok with
         |true=>
          have b5:Hid (fQ row t.ax=fQ (row.drop (j+1)) (t.ax.drop (j+1))):=by rw[Hid,K.out,HD.out];rfl
          clear HD K
          go_wp2_with fail
          go_roundg (i- (j+1))
          case measure=>omega
          case rel=>exact⟨j+1,rfl,by omega,by go_num,BQ,b5⟩
         |false=>
          have k:Hid (bJ t=false):=by rw[Hid,b4.out,E.out,S.out,K.out,HD.out];rfl
          clear HD K
          go_wp2_with fail
          go_ret;exact⟨ay k.out.symm,BF⟩
       ·have i4:Hid (((t.rows.all λr=>fQ r t.ax))=(t.rows.drop (r+1)).all λr=>fQ r t.ax):=by
         have j9:fQ row t.ax=true:=by
          rw[K.out,drop_of_length_le (by have:=b6.out;omega),drop_of_length_le (by have:=T.out;omega)];rfl
         rw[Hid,E.out,S.out,j9,Bool.true_and]
        clear K S E
        go_wp2_with fail
        go_roundg (nr- (r+1))
        case measure=>omega
        case rel=>exact⟨r+1,rfl,by omega,by go_num,Q,i4⟩
     ·have k:Hid (bJ t=false):=by
       rw[Hid,b4.out,E.out,S.out,uU row t.ax (by rw[<-T.out];exact a8)];rfl
      have j6:((row.length:Int) != (i:Int))=true:=by simp;omega
      clear S E
      go_wp2_with fail
      go_region;all_goals(try go_wp2_with fail)
      all_goals go_ret
      all_goals exact⟨ay k.out.symm,by first|exact D|exact D.drew⟩
    ·have k:Hid (bJ t=true):=by rw[Hid,b4.out,E.out,drop_of_length_le (by have:=c6.out;omega)];rfl
     clear E
     go_wp2_with fail
     go_ret;exact⟨ay k.out.symm,D⟩
theorem zl(w:World)(t:aJ)(co:Option Addr)(cn cc:Nat)(ro:Option Addr)(rn rc:Nat)(uo:Option Addr)(un uc:Nat)(c:dM w (.slice co cn cc) t.ax)(d:RowsIn w (.slice ro rn rc) t.rows):
  Calls prog 120 #[.agg #[.string (aa t.name),.slice co cn cc,.slice ro rn rc,.int .i64 t.count,.string (aa t.aD),.slice uo un uc]] w λe w'=>e=.returned (.bool (bJ t))/\Below w.heap.size w w':=by
 have a:cn=t.ax.length:=by obtain⟨_,_,e,_⟩:=c;cases e;rfl
 have b:rn=t.rows.length:=by obtain⟨_,_,e,_⟩:=d;cases e;rfl
 subst a b;by_cases h:1<=t.ax.length/\t.ax.length<=4/\0<=t.count/\t.count<=1000000/\t.rows.length<=10
 ·exact xQ w t co cc ro rc uo un uc c d h
 ·exact zm w t co cc ro rc uo un uc h
theorem ER:(Tryz.prog.info? 9).map (λi=>(i.zero,i.size,i.bytes))=some (some (.string ⟨#[]⟩),1,16):=by kernel_rfl
theorem TA:(Tryz.prog.info? 5).map (λi=>(i.zero,i.size,i.bytes))=some (some (.int .u8 0),1,1):=by kernel_rfl
theorem uX{x wo w7:World}{L:Obj}{O k H c n:Nat}{a:Option Addr}{w u:Nat}{T t:TypeId}{D d:List Value}{cs:Array Value}(I:wo.heap[O]? =some (.cells cs t (0,0)))(own:wo.ownsRow (O+1) T 1 (.slice a w u) n D)(j:Below O x wo)
  (b:(wo.alloc L).drew.grownBy w7 (slice a w u).ownBlock) (f:w7.ownsRow (O+1) T 1 (.slice (some ⟨H,0,none⟩) (n+1) c) (n+1) (D++d)) (v:Value):
  w7.heap[O]? =some (.cells cs t (0,0))/\(w7.setCell ⟨O,k,none⟩ v).heap[O]? =some (.cells (cs.setIfInBounds k v) t (0,0))/\
  (w7.setCell ⟨O,k,none⟩ v).ownsRow (O+1) T 1 (.slice (some ⟨H,0,none⟩) (n+1) c) (n+1) (D++d)/\Below O x (w7.setCell ⟨O,k,none⟩ v)/\
  ∀(s:TypeId) (v':Value) (m:Nat) (E:List Value),s≠T->wo.ownsRow (O+1) s 1 v' m E->(w7.setCell ⟨O,k,none⟩ v).ownsRow (O+1) s 1 v' m E:=by
 have z:=ai I;have A:=b.size;simp only[size_drew,size_alloc]at A;have C:(slice a w u).ownBlock≠some O:=λe=>by have:=(own.lt _ e).1;omega
 have ag:∀g,g<wo.heap.size->(slice a w u).ownBlock≠some g->w7.heap[g]? =wo.heap[g]? :=λg J K=>
  (b.block g (by simp only[size_drew,size_alloc];omega) (λe=>K e.symm)).trans (Below.heap_alloc _ _ _ J)
 have l:w7.heap[O]? =some (.cells cs t (0,0)):=(ag O z C).trans I;refine⟨l,by simp[World.setCell,Array.getElem?_modify,l],ownsRow_setCell_below f (by show O<O+1;omega) _, ?_,λs v' m E M i=> ?_⟩
 ·suffices h:Below O x w7 from h.setCell (p:=⟨O,k,none⟩) (Nat.le_refl _) _
  refine⟨b.os.trans j.os,b.tape.trans j.tape,b.output.trans j.output,by have:=j.size;omega,λg N=> ?_⟩;exact(ag g (by omega) (λe=>by have:=(own.lt _ e).1;omega)).trans (j.block g N)
 ·refine ownsRow_setCell_below (aA i λq o=>ag q (i.lt q o).2 λe=> ?_) (by show O<O+1;omega) _;rcases own.2 with⟨h,_⟩|⟨g1,P,F,h,_,B,_⟩
  ·rw[h]at e;cases e
  ·rw[h]at e;cases e;rcases i.2 with⟨y,_⟩|⟨R,Q,G,y,_,r,_⟩
   ·rw[y]at o;cases o
   ·rw[y]at o;cases o;rw[B]at r;cases r;exact M rfl
end Go.Proofs.YtdifpeaklamhnaaGreatDoor
