import Derived.Test.YtdifpeaklamhnaaGreatDoorEwRZ
import Derived.Test.YtdifpeaklamhnaaGreatDoorRtOZ
import Derived.Test.YtdifpeaklamhnaaGreatDoorEwUZ
set_option linter.unusedVariables false
set_option linter.unusedSimpArgs false
set_option maxRecDepth 100000
set_option maxHeartbeats 0
namespace Go.Proofs.YtdifpeaklamhnaaGreatDoor
open Go.Proofs.Tryz
open Go.RowKit
open Nat (le_refl zero_mul add_zero lt_of_lt_of_le)
open World (size_alloc size_setCell)
theorem eu(b:Bool)(w:World):Calls prog 130 #[.bool b] w λe w'=>e=.returned (.agg #[.int .i64 3,.int .i64 (gB b),.string ⟨#[]⟩])/\w'=w.alloc (.cells #[.int .i64 3,.int .i64 (gB b),.string ⟨#[]⟩] 56):=by
 cases b
 ·go_enter Tryz.func130,Tryz.ntmps130
  go_wp2_with fail
  exact bodyPost_ret (v:=.agg #[.int .i64 3,.int .i64 0,.string ⟨#[]⟩]) (by simp[results,Tryz.results130,go_sem]) rfl ⟨rfl,rfl⟩
 ·go_enter Tryz.func130,Tryz.ntmps130
  go_wp2_with fail
  exact bodyPost_ret (v:=.agg #[.int .i64 3,.int .i64 1,.string ⟨#[]⟩]) (by simp[results,Tryz.results130,go_sem]) rfl ⟨rfl,rfl⟩
theorem Oe(n:Nat):(48+(n:Int) % 10)=((UInt8.ofNat (48+n % 10)).toNat:Int):=by
 have:(48+n % 10)<256:=by omega
 simp[UInt8.toNat_ofNat',Nat.mod_eq_of_lt this]
theorem EH(n:Nat)(w:World):(convert 174 9 (.slice (some ⟨w.heap.size,0,none⟩) 1 1)).run prog (w.alloc (.cells #[.int .u8 (48+(n:Int) % 10)] 5))=.ok (.string (aa [UInt8.ofNat (48+n % 10)])) (w.alloc (.cells #[.int .u8 (48+(n:Int) % 10)] 5)):=by
 rw[Oe];exact run_convert_bytes_back (P:=prog) (w.alloc (.cells #[.int .u8 ((UInt8.ofNat (48+n % 10)).toNat:Int)] 5)) 174 9 5 ⟨w.heap.size,0,none⟩ 1 [UInt8.ofNat (48+n % 10)] Tryz.underlying174 Tryz.underlying5 Tryz.underlying9 (by
  intro m b;have a:m=0:=by simp at b;exact b
  subst a;exact(ag (heap_alloc_new w _)).trans rfl)
theorem JQ:∀(k n:Nat),n<=k->(Lib.decDigits n).length<=n+1:=by
 intro k
 induction k with
 |zero=>intro n a;rw[Lib.decDigits,dif_pos (by omega)];simp
 |succ k ih=>
  intro n a;by_cases h:n<10
  ·rw[Lib.decDigits,dif_pos h];simp
  ·have:=ih (n / 10) (by omega);rw[Lib.decDigits,dif_neg h,List.length_append,List.length_singleton];omega
theorem oQ(a b:Bs):aa a++aa b=aa (a++b):=by apply ByteArray.ext;rw[ByteArray.data_append];simp[aa]
theorem Pz(k:Nat):∀n:Nat,n<=k->n<=4000000000000000000->∀w:World,Calls prog 201 #[.int .i64 (n:Int)] w λe w'=>e=.returned (.string (aa (Lib.decDigits n)))/\Below w.heap.size w w':=by
 induction k with
 |zero=>
  intro n o m w;have a:=EH n w;obtain⟨c,f⟩:∃c,c=UInt8.ofNat (48+n % 10):=⟨_,rfl⟩;have b:Lib.decDigits n= [UInt8.ofNat (48+n % 10)]:=by rw[Lib.decDigits,dif_pos (by omega),Nat.mod_eq_of_lt (by omega)]
  rw[b];rw[<-f]at a ⊢;clear f b;go_enter Tryz.func201,Tryz.ntmps201
  go_wp2_with fail
  go_ret;exact⟨rfl,ae w _⟩
 |succ k ih=>
  intro n o m w;have a:=EH n w;obtain⟨c,f⟩:∃c,c=UInt8.ofNat (48+n % 10):=⟨_,rfl⟩;by_cases g:n<10
  ·have b:Lib.decDigits n= [UInt8.ofNat (48+n % 10)]:=by rw[Lib.decDigits,dif_pos g,Nat.mod_eq_of_lt g]
   rw[b];rw[<-f]at a ⊢;clear f b;go_enter Tryz.func201,Tryz.ntmps201
   go_wp2_with fail
   go_ret;exact⟨rfl,ae w _⟩
  ·have b:Lib.decDigits n=Lib.decDigits (n / 10)++ [UInt8.ofNat (48+n % 10)]:=by rw[Lib.decDigits,dif_neg g]
   have i:=ih (n / 10) (by omega) (by omega);rw[b];have l:=JQ _ (n / 10) (le_refl _);obtain⟨d,h⟩:∃d,d=Lib.decDigits (n / 10):=⟨_,rfl⟩;rw[<-h]at i l ⊢;rw[<-f]at a ⊢;have p:¬9223372036854775807<(aa d).size+(aa [c]).size:=by rw[aF,aF,List.length_singleton];omega
   have j:Hid (aa d++aa [c]=aa (d++ [c])):=oQ _ _;clear f b h ih;go_enter Tryz.func201,Tryz.ntmps201
   go_wp2_with(go_at_call 201;refine(i _).mono ?_;rintro e w2 ⟨rfl,hb2⟩)
   go_ret;exact⟨by rw[<-j.out];rfl,(ae w _).trans (hb2.mono (by simp[size_alloc]))⟩
theorem zF(n:Int)(i: -4000000000000000000<=n)(j:n<=4000000000000000000)(w:World):Calls prog 201 #[.int .i64 n] w λe w'=>e=.returned (.string (aa (Lib.itoa n)))/\Below w.heap.size w w':=by
 by_cases c:n<0
 ·have a:=Pz _ n.natAbs (le_refl _) (by omega);have g:=JQ _ n.natAbs (le_refl _);rw[Lib.itoa,if_pos c];have e:((n.natAbs:Nat):Int)= -n:=by omega
  rw[e]at a;obtain⟨d,b⟩:∃d,d=Lib.decDigits n.natAbs:=⟨_,rfl⟩;rw[<-b]at a g ⊢;have h:¬9223372036854775807<(ByteArray.mk #[45]).size+(aa d).size:=by rw[aF];show¬9223372036854775807<1+d.length;omega
  have f:Hid (ByteArray.mk #[45]++aa d=aa (45::d)):=by have:=oQ [45] d;exact this
  clear b e;go_enter Tryz.func201,Tryz.ntmps201
  go_wp2_with(go_at_call 201;refine(a _).mono ?_;rintro e w2 ⟨rfl,hb2⟩)
  go_ret;exact⟨by rw[<-f.out];rfl,hb2⟩
 ·have a:=Pz _ n.toNat (le_refl _) (by omega) w;rw[Lib.itoa,if_neg c]
  rwa[show((n.toNat:Nat):Int)=n by omega]at a
def mK(a b:au):Bool:=if a.1=2 then Op.bytesLess a.2.2 b.2.2 else decide (a.2.1<b.2.1)
theorem fM(a b:au)(k:a.1≠0)(hb:b.1≠0)(w:World):Calls prog 164 #[.agg #[.int .i64 a.1,.int .i64 a.2.1,.string (aa a.2.2)],.agg #[.int .i64 b.1,.int .i64 b.2.1,.string (aa b.2.2)]] w λe w'=>e=.returned (.bool (mK a b))/\Below w.heap.size w w':=by
 obtain⟨c,g,f⟩:=a;obtain⟨bk,i,h⟩:=b;simp only at k hb ⊢;have m:(c==0)=false:=by simpa using k
 have n:(bk==0)=false:=by simpa using hb
 by_cases j:c=2
 ·subst j;have d:Hid (mK (2,g,f) (bk,i,h)=Op.bytesLess (aa f).toList (aa h).toList):=by rw[Hid,mK,if_pos rfl,aj,aj]
  go_enter Tryz.func164,Tryz.ntmps164
  go_wp2_with fail
  go_ret;exact⟨by rw[d.out];rfl,az w _ _⟩
 ·have l:(c==2)=false:=by simpa using j
  have d:Hid (mK (c,g,f) (bk,i,h)=decide (g<i)):=by rw[Hid,mK,if_neg j]
  go_enter Tryz.func164,Tryz.ntmps164
  go_wp2_with fail
  go_ret;exact⟨by rw[d.out];rfl,az w _ _⟩
theorem Di(k n:Int)(l:Bs)(w:World)(m: -4000000000000000000<=n)(o:n<=4000000000000000000)(u:l.length<=1000):Calls prog 131 #[.agg #[.int .i64 k,.int .i64 n,.string (aa l)]] w λe w'=>e=.returned (.string (aa (fV (k,n,l))))/\Below w.heap.size w w':=by
 by_cases b:k=1
 ·subst b;have i:=zF n m o;have a:Hid (fV (1,n,l)=Lib.itoa n):=rfl;go_enter Tryz.func131,Tryz.ntmps131
  go_wp2_with(go_at_call 201;refine(i _).mono ?_;rintro e w2 ⟨rfl,hb2⟩)
  go_ret;exact⟨by rw[a.out];rfl,(ae w _).trans (hb2.mono (by simp[size_alloc]))⟩
 ·have r:(k==1)=false:=by simpa using b
  by_cases c:k=2
  ·subst c;have a:Hid (fV (2,n,l)= [39]++(l++ [39])):=rfl;have p:¬9223372036854775807<(ByteArray.mk #[39]).size+(aa l).size:=by rw[aF];show¬9223372036854775807<1+l.length;omega
   have q:¬9223372036854775807<(ByteArray.mk #[39]++aa l).size+(ByteArray.mk #[39]).size:=by
    have:ByteArray.mk #[39]++aa l=aa (39::l):=oQ [39] l;rw[this,aF];show¬9223372036854775807<(l.length+1)+1;omega
   have h:Hid (ByteArray.mk #[39]++aa l++ByteArray.mk #[39]=aa ([39]++(l++ [39]))):=by
    have j:ByteArray.mk #[39]++aa l=aa ([39]++l):=oQ [39] l;rw[Hid,j,<-List.append_assoc];exact oQ _ [39]
   go_enter Tryz.func131,Tryz.ntmps131
   go_wp2_with fail
   go_ret;exact⟨by rw[a.out,<-h.out];rfl,ae w _⟩
  ·have s:(k==2)=false:=by simpa using c
   by_cases d:k=3
   ·subst d;by_cases g:n=1
    ·subst g;have a:Hid (fV (3,1,l)= [116,114,117,101]):=rfl;go_enter Tryz.func131,Tryz.ntmps131
     go_wp2_with fail
     go_ret;exact⟨by rw[a.out];rfl,ae w _⟩
    ·have f:(n==1)=false:=by simpa using g
     have a:Hid (fV (3,n,l)= [102,97,108,115,101]):=by rw[Hid,fV];simp[f,Lib.formatBool];decide
     go_enter Tryz.func131,Tryz.ntmps131
     go_wp2_with fail
     go_ret;exact⟨by rw[a.out];rfl,ae w _⟩
   ·have t:(k==3)=false:=by simpa using d
    have a:Hid (fV (k,n,l)= [45]):=by rw[Hid,fV,if_neg b,if_neg c,if_neg d]
    go_enter Tryz.func131,Tryz.ntmps131
    go_wp2_with fail
    go_ret;exact⟨by rw[a.out];rfl,ae w _⟩
abbrev Kr:=xE 232
def RW(w:World)(rb:Nat)(fv:Value)(user:Bs)(cv lv:Value)(ns:List Bs)(k:Int):Prop:=∃no nn nc,w.heap[rb]? =some (.cells #[fv,.string (aa user),cv,lv,.slice no nn nc,.int .i64 k] 232 (0,0))/\w.ownsRow (rb+1) 9 1 (.slice no nn nc) ns.length (bD ns)
abbrev ja(c:au):Value:=.agg #[.int .i64 c.1,.int .i64 c.2.1,.string (aa c.2.2)]
theorem vz{w:World}{v:Value}{cs:List au}(h:aR w v cs)(i:Nat)(c:i<cs.length):∃b a cap,v=.slice (some ⟨b,a,none⟩) cs.length cap/\b<w.heap.size/\w.cell? ⟨b,a+i*3,none⟩=some (.int .i64 cs[i].1)/\w.cell? ⟨b,a+i*3+1,none⟩=some (.int .i64 cs[i].2.1)/\w.cell? ⟨b,a+i*3+2,none⟩=some (.string (aa cs[i].2.2)):=by
 obtain⟨j,cap,rfl,_,h|⟨b,a,rfl,hb,d⟩⟩:=h
 ·subst h;simp at c
 ·obtain⟨e,f,g⟩:=d i cs[i] (List.getElem?_eq_getElem c);exact⟨b,a,cap,rfl,hb,e,f,g⟩
abbrev jY(c:au):Obj:=aC c.1 c.2.1 (aa c.2.2)
structure SG(w x:World)(a c:au):Prop where
 ng:Below w.heap.size w x
 b0:x.heap[w.heap.size]? =some (aC 0 0 ⟨#[]⟩)
 b1:x.heap[w.heap.size+1]? =some (jY a)
 b2:x.heap[w.heap.size+1+1]? =some (jY c)
theorem SG.ah{w x y:World}{a c:au}(h:SG w x a c)(hb:Below x.heap.size x y):SG w y a c:=
 ⟨h.ng.trans (hb.mono h.ng.size),(hb.block _ (af h.b0)).trans h.b0,(hb.block _ (af h.b1)).trans h.b1,(hb.block _ (af h.b2)).trans h.b2⟩
theorem yR(w:World)(a c:au):SG w (((w.alloc (aC 0 0 ⟨#[]⟩)).alloc (jY a)).alloc (jY c)) a c:=by
 obtain⟨b,d,e⟩:=NK w (aC 0 0 ⟨#[]⟩) (jY a) (jY c);exact⟨dA w _ _ _,b,d,e⟩
theorem SG.cells{w x:World}{a c:au}(h:SG w x a c):(w.heap.size<x.heap.size/\w.heap.size+1<x.heap.size/\w.heap.size+1+1<x.heap.size)/\((x.cell? ⟨w.heap.size+1,0,none⟩=some (.int .i64 a.1)/\x.cell? ⟨w.heap.size+1,1,none⟩=some (.int .i64 a.2.1)/\x.cell? ⟨w.heap.size+1,2,none⟩=some (.string (aa a.2.2)))/\(x.cell? ⟨w.heap.size+1+1,0,none⟩=some (.int .i64 c.1)/\x.cell? ⟨w.heap.size+1+1,1,none⟩=some (.int .i64 c.2.1)/\x.cell? ⟨w.heap.size+1+1,2,none⟩=some (.string (aa c.2.2))))/\
  (x.cell? ⟨w.heap.size,0,none⟩=some (.int .i64 0)/\x.cell? ⟨w.heap.size,1,none⟩=some (.int .i64 0)/\x.cell? ⟨w.heap.size,2,none⟩=some (.string ⟨#[]⟩))/\(x.frozen? ⟨w.heap.size,0,none⟩=false/\x.frozen? ⟨w.heap.size,1,none⟩=false/\x.frozen? ⟨w.heap.size,2,none⟩=false):=
 ⟨⟨af h.b0,af h.b1,af h.b2⟩,⟨(aJ h.b1).1,(aJ h.b2).1⟩,aJ h.b0⟩
def Uf(c:au):au:=aW (c.2.1==0)
theorem Gi(w:World)(t:Nat)(v:Value)(c:au)(h:aR w v [c])(j:c.1≠0):Calls prog 132 #[.pointer (some ⟨t,0,none⟩),.string ⟨#[110,111,116]⟩,v] w λe w'=>e=.returned (ja (Uf c))/\Below w.heap.size w w':=by
 obtain⟨b,r,cap,rfl,hb,l,m,n⟩:=vz h 0 (by simp);simp only[List.getElem_cons_zero,zero_mul,add_zero]at l m n;have f:=fM c c j j;have a:=yR w c c;obtain⟨g,cn,i⟩:=c;simp only at l m n f j a ⊢;obtain⟨d,k⟩:∃d,d=mK (g,cn,i) (g,cn,i):=⟨_,rfl⟩;rw[<-k]at f;have o:=eu (cn==0);have p:Hid (ja (Uf (g,cn,i))=.agg #[.int .i64 3,.int .i64 (gB (cn==0)),.string ⟨#[]⟩]):=rfl;clear k h;go_enter Tryz.func132,Tryz.ntmps132
 go_wp2_with(first
  |(go_at_call 164;refine(f _).mono ?_;rintro e w2 ⟨rfl,hb2⟩;replace a:=a.ah hb2;obtain⟨⟨q,l1,l2⟩,⟨⟨a0,a1,a2⟩,z,A,B⟩,⟨s,r1,r2⟩,u,x,y⟩:=a.cells)
  |(go_at_call 130;refine(o _).mono ?_;rintro e C ⟨rfl,rfl⟩))
 refine bodyPost_ret (v:=.agg #[.int .i64 3,.int .i64 (gB (cn==0)),.string ⟨#[]⟩]) (by simp[results,Tryz.results132,go_sem,s,r1,r2,q]) rfl ⟨by rw[p.out], ?_⟩;exact(aI a.ng (le_refl _) _ _ _).alloc (by simp only[size_setCell];exact a.ng.size) _
theorem Gh(w:World)(r:Nat)(v:Value)(c:au)(h:aR w v [c])(i:c.1≠0):Calls prog 132 #[.pointer (some ⟨r,0,none⟩),.string ⟨#[108,101,110]⟩,v] w λe w'=>e=.returned (ja (1,(c.2.2.length:Int),[]))/\Below w.heap.size w w':=by
 obtain⟨b,p,cap,rfl,hb,l,m,n⟩:=vz h 0 (by simp);simp only[List.getElem_cons_zero,zero_mul,add_zero]at l m n;have g:=fM c c i i;have f:=yR w c c;obtain⟨j,cn,a⟩:=c;simp only at l m n g i f ⊢;obtain⟨d,k⟩:∃d,d=mK (j,cn,a) (j,cn,a):=⟨_,rfl⟩;rw[<-k]at g;have o:(aa a).size=a.length:=aF a;clear k h;go_enter Tryz.func132,Tryz.ntmps132
 go_wp2_with(go_at_call 164;refine(g _).mono ?_;rintro e w2 ⟨rfl,hb2⟩;replace f:=f.ah hb2;obtain⟨⟨A,l1,l2⟩,⟨⟨a0,a1,a2⟩,x,y,z⟩,⟨q,r1,r2⟩,s,t,u⟩:=f.cells)
 refine bodyPost_ret (v:=.agg #[.int .i64 1,.int .i64 (a.length:Int),.string ⟨#[]⟩]) (by simp[results,Tryz.results132,go_sem,q,r1,r2]) rfl ⟨rfl, ?_⟩;exact aI f.ng (le_refl _) _ _ _
def Ey(h:Bs)(ab ba:Bool):Bool:=if h= [61]then !ab&& !ba else if h= [60]then ab else !ba
theorem Bc{w:World}{v:Value}{a c:au}(h:aR w v [a,c]):∃b d cap,v=.slice (some ⟨b,d,none⟩) 2 cap/\b<w.heap.size/\(w.cell? ⟨b,d,none⟩=some (.int .i64 a.1)/\w.cell? ⟨b,d+1,none⟩=some (.int .i64 a.2.1)/\w.cell? ⟨b,d+2,none⟩=some (.string (aa a.2.2)))/\w.cell? ⟨b,d+3,none⟩=some (.int .i64 c.1)/\w.cell? ⟨b,d+4,none⟩=some (.int .i64 c.2.1)/\w.cell? ⟨b,d+5,none⟩=some (.string (aa c.2.2)):=by
 obtain⟨b,d,cap,e,hb,m,n,o⟩:=vz h 0 (by simp);obtain⟨p,i,f,g,_,j,k,l⟩:=vz h 1 (by simp);rw[e]at g;cases g;simp only[List.getElem_cons_zero,List.getElem_cons_succ,zero_mul,add_zero,Nat.one_mul,Nat.add_assoc]at m n o j k l;exact⟨b,d,cap,e,hb,⟨m,n,o⟩,j,k,l⟩
theorem Gg(w:World)(T:Nat)(v:Value)(a c:au)(h:aR w v [a,c])(C:a.1≠0)(D:c.1≠0)(A:Bs)(K:A= [61]\/A= [60]\/A= [60,61]):Calls prog 132 #[.pointer (some ⟨T,0,none⟩),.string (aa A),v] w λe w'=>e=.returned (ja (aW (Ey A (mK a c) (mK c a))))/\Below w.heap.size w w':=by
 obtain⟨b,L,cap,rfl,hb,⟨Q,R,S⟩,N,O,P⟩:=Bc h;have t:=fM a c C D;have k:=fM c a D C;have f:=yR w a c;obtain⟨F,H,G⟩:=a;obtain⟨I,cn,J⟩:=c;simp only at Q R S N O P t k f ⊢;obtain⟨o,y⟩:∃d,d=mK (F,H,G) (I,cn,J):=⟨_,rfl⟩;obtain⟨p,z⟩:∃d,d=mK (I,cn,J) (F,H,G):=⟨_,rfl⟩;rw[<-y]at t ⊢;rw[<-z]at k ⊢;have B:=eu;have M:Hid True:=trivial;clear y z h C D;have n:∀d:Bool,Hid (ja (aW d)=.agg #[.int .i64 3,.int .i64 (gB d),.string ⟨#[]⟩]):=λ_=>rfl;rcases K with rfl|rfl|rfl
 ·have x:aa [61]=⟨#[61]⟩:=rfl;rw[x];have u:Hid (Ey [61] o p=(!o&& !p)):=rfl;rw[u.out]
  cases o
  ·go_enter Tryz.func132,Tryz.ntmps132
   go_wp2_with(first
    |(go_at_call 164;first
    |(clear M;refine(t _).mono ?_;rintro e w2 ⟨rfl,hb2⟩;replace f:=f.ah hb2;obtain⟨⟨l,l1,l2⟩,⟨⟨a0,a1,a2⟩,q,r,s⟩,⟨m,r1,r2⟩,g,i,j⟩:=f.cells)
    |(refine(k _).mono ?_;rintro e w2 ⟨rfl,hb2⟩;replace f:=f.ah hb2;obtain⟨⟨l,l1,l2⟩,⟨⟨a0,a1,a2⟩,q,r,s⟩,⟨m,r1,r2⟩,g,i,j⟩:=f.cells))
    |(go_at_call 130;refine(B _ _).mono ?_;rintro e E ⟨rfl,rfl⟩))
   refine bodyPost_ret (v:=.agg #[.int .i64 3,.int .i64 (gB (!p)),.string ⟨#[]⟩]) (by simp[results,Tryz.results132,go_sem,m,r1,r2,l]) rfl ⟨by rw[(n _).out];rfl, ?_⟩;exact(aI f.ng (le_refl _) _ _ _).alloc (by simp only[size_setCell];exact f.ng.size) _
  ·go_enter Tryz.func132,Tryz.ntmps132
   go_wp2_with(first
    |(go_at_call 164;first
    |(clear M;refine(t _).mono ?_;rintro e w2 ⟨rfl,hb2⟩;replace f:=f.ah hb2;obtain⟨⟨l,l1,l2⟩,⟨⟨a0,a1,a2⟩,q,r,s⟩,⟨m,r1,r2⟩,g,i,j⟩:=f.cells)
    |(refine(k _).mono ?_;rintro e w2 ⟨rfl,hb2⟩;replace f:=f.ah hb2;obtain⟨⟨l,l1,l2⟩,⟨⟨a0,a1,a2⟩,q,r,s⟩,⟨m,r1,r2⟩,g,i,j⟩:=f.cells))
    |(go_at_call 130;refine(B _ _).mono ?_;rintro e E ⟨rfl,rfl⟩))
   refine bodyPost_ret (v:=.agg #[.int .i64 3,.int .i64 (gB false),.string ⟨#[]⟩]) (by simp[results,Tryz.results132,go_sem,m,r1,r2,l]) rfl ⟨by rw[(n _).out];rfl, ?_⟩;exact(aI f.ng (le_refl _) _ _ _).alloc (by simp only[size_setCell];exact f.ng.size) _
 ·have x:aa [60]=⟨#[60]⟩:=rfl;rw[x];have u:Hid (Ey [60] o p=o):=rfl;rw[u.out];go_enter Tryz.func132,Tryz.ntmps132
  go_wp2_with(first
   |(go_at_call 164;first
    |(clear M;refine(t _).mono ?_;rintro e w2 ⟨rfl,hb2⟩;replace f:=f.ah hb2;obtain⟨⟨l,l1,l2⟩,⟨⟨a0,a1,a2⟩,q,r,s⟩,⟨m,r1,r2⟩,g,i,j⟩:=f.cells)
    |(refine(k _).mono ?_;rintro e w2 ⟨rfl,hb2⟩;replace f:=f.ah hb2;obtain⟨⟨l,l1,l2⟩,⟨⟨a0,a1,a2⟩,q,r,s⟩,⟨m,r1,r2⟩,g,i,j⟩:=f.cells))
   |(go_at_call 130;refine(B _ _).mono ?_;rintro e E ⟨rfl,rfl⟩))
  refine bodyPost_ret (v:=.agg #[.int .i64 3,.int .i64 (gB o),.string ⟨#[]⟩]) (by simp[results,Tryz.results132,go_sem,m,r1,r2,l]) rfl ⟨by rw[(n _).out], ?_⟩;exact(aI f.ng (le_refl _) _ _ _).alloc (by simp only[size_setCell];exact f.ng.size) _
 ·have x:aa [60,61]=⟨#[60,61]⟩:=rfl;rw[x];have u:Hid (Ey [60,61] o p= !p):=rfl;rw[u.out];go_enter Tryz.func132,Tryz.ntmps132
  go_wp2_with(first
   |(go_at_call 164;first
    |(clear M;refine(t _).mono ?_;rintro e w2 ⟨rfl,hb2⟩;replace f:=f.ah hb2;obtain⟨⟨l,l1,l2⟩,⟨⟨a0,a1,a2⟩,q,r,s⟩,⟨m,r1,r2⟩,g,i,j⟩:=f.cells)
    |(refine(k _).mono ?_;rintro e w2 ⟨rfl,hb2⟩;replace f:=f.ah hb2;obtain⟨⟨l,l1,l2⟩,⟨⟨a0,a1,a2⟩,q,r,s⟩,⟨m,r1,r2⟩,g,i,j⟩:=f.cells))
   |(go_at_call 130;refine(B _ _).mono ?_;rintro e E ⟨rfl,rfl⟩))
  refine bodyPost_ret (v:=.agg #[.int .i64 3,.int .i64 (gB (!p)),.string ⟨#[]⟩]) (by simp[results,Tryz.results132,go_sem,m,r1,r2,l]) rfl ⟨by rw[(n _).out], ?_⟩;exact(aI f.ng (le_refl _) _ _ _).alloc (by simp only[size_setCell];exact f.ng.size) _
theorem RW.lt{w:World}{rb:Nat}{c:Value}{a:Bs}{b d:Value}{ns:List Bs}{k:Int}(h:RW w rb c a b d ns k):rb<w.heap.size:=by
 obtain⟨_,_,_,h,_⟩:=h;exact af h
theorem RW.ah{w x:World}{b:Nat}{d:Value}{a:Bs}{c i:Value}{ns:List Bs}{k:Int}(h:RW w b d a c i ns k)(hb:Below w.heap.size w x):RW x b d a c i ns k:=by
 obtain⟨n,m,l,e,f⟩:=h;exact⟨n,m,l,(hb.block b (af e)).trans e,aA f λg j=>hb.block g (f.lt g j).2⟩
theorem RW.cells{w:World}{rb:Nat}{fv:Value}{a:Bs}{cv lv:Value}{ns:List Bs}{k:Int}(h:RW w rb fv a cv lv ns k):w.frozen? ⟨rb,5,none⟩=false/\w.cell? ⟨rb,5,none⟩=some (.int .i64 k):=by
 obtain⟨f,e,d,b,c⟩:=h;simp[World.frozen?,World.cell?,b]
theorem RW.fault{w x:World}{a:Nat}{l:Value}{c:Bs}{j o:Value}{ns:List Bs}{k:Int}(h:RW w a l c j o ns k)(hb:Below w.heap.size w x){b:Nat}(u:w.heap.size<=b)(n:Int)(a0 a1 a2:Value):RW ((((x.setCell ⟨a,5,none⟩ (.int .i64 n)).setCell ⟨b,0,none⟩ a0).setCell ⟨b,1,none⟩ a1).setCell ⟨b,2,none⟩ a2) a l c j o ns n/\Kr a w ((((x.setCell ⟨a,5,none⟩ (.int .i64 n)).setCell ⟨b,0,none⟩ a0).setCell ⟨b,1,none⟩ a1).setCell ⟨b,2,none⟩ a2):=by
 have t:=h.lt;obtain⟨A,z,y,m,f⟩:=h;have v:=(hb.block a t).trans m;have d:∀g,g<w.heap.size->g≠a->((((x.setCell ⟨a,5,none⟩ (.int .i64 n)).setCell ⟨b,0,none⟩ a0).setCell ⟨b,1,none⟩ a1).setCell ⟨b,2,none⟩ a2).heap[g]? =w.heap[g]? :=λg r s=>by
  rw[bF _ _ _ _ _ _ (by omega),Below.heap_setCell _ _ _ _ s];exact hb.block g r
 refine⟨⟨A,z,y, ?_,aA f λg i=>d g (f.lt g i).2 (by have:=(f.lt g i).1;omega)⟩,⟨hb.os,hb.tape,hb.output,by simp only[size_setCell];exact hb.size,λg i=>d g (by omega) (by omega)⟩,λg p T B e t1 t2=>(d g (af e) λq=> ?_).trans e⟩
 ·rw[bF _ _ _ _ _ _ (by omega)];simp[World.setCell,Array.getElem?_modify,v]
 ·subst q;rw[m]at e;cases e;exact t2 rfl
theorem AR{a:Bs}(b:a= [43]\/a= [45]\/a= [42]\/a= [47])(l:Bs)(c:l= [110,111,116]\/l= [108,101,110]\/l= [61]\/l= [60]\/l= [60,61]\/l= [99,97,116]):((aa a).toList==l)=false:=by
 rw[aj];rcases b with rfl|rfl|rfl|rfl<;>rcases c with rfl|rfl|rfl|rfl|rfl|rfl<;>rfl
theorem IX(w:World)(u:Nat)(fv:Value)(l:Bs)(cv lv:Value)(ns:List Bs)(p:RW w u fv l cv lv ns 0)(v:Value)(a c:au)(h:aR w v [a,c])(Y:a.1≠0)(Z:c.1≠0)(ra:aP a.2.1=true)(rc:aP c.2.1=true)(i:Bs)(q:i= [43]\/i= [45]\/i= [42]\/i= [47]):Calls prog 132 #[.pointer (some ⟨u,0,none⟩),.string (aa i),v] w λe w'=>e=.returned (ja (jC i a.2.1 c.2.1).1)/\RW w' u fv l cv lv ns (jC i a.2.1 c.2.1).2/\Kr u w w':=by
 have t1:=AR q [110,111,116] (by simp);have t2:=AR q [108,101,110] (by simp);have t3:=AR q [61] (by simp);have t4:=AR q [60] (by simp);have t5:=AR q [60,61] (by simp);have t6:=AR q [99,97,116] (by simp);obtain⟨⟨B,C⟩,⟨D,E⟩,⟨H,I⟩,F,G⟩:=Pf ra rc;obtain⟨b,a7,cap,rfl,hb,⟨q0,q1,q2⟩,p0,p1,p2⟩:=Bc h;have N:=fM a c Y Z;have j:=fM c a Z Y;have f:=yR w a c;obtain⟨R,o,S⟩:=a;obtain⟨W,cn,X⟩:=c;simp only at q0 q1 q2 p0 p1 p2 N j f B C D E H I F G ⊢;obtain⟨ab,J⟩:∃d,d=mK (R,o,S) (W,cn,X):=⟨_,rfl⟩;obtain⟨bb,K⟩:∃d,d=mK (W,cn,X) (R,o,S):=⟨_,rfl⟩;rw[<-J]at N;rw[<-K]at j;obtain⟨r,hr⟩:∃r,r=jC i o cn:=⟨_,rfl⟩;rw[<-hr];have P:Hid (r=jC i o cn):=hr;clear hr;have M:Hid True:=trivial;have s:=p.lt;clear J K h Y Z ra rc;go_enter Tryz.func132,Tryz.ntmps132;go_upto_block 3 with(go_at_call 164;first
  |(clear M;refine(N _).mono ?_;rintro e w2 ⟨rfl,hb2⟩;replace f:=f.ah hb2;obtain⟨⟨l0,l1,l2⟩,⟨⟨a0,a1,a2⟩,T,U,V⟩,⟨t,r1,r2⟩,x,y,z⟩:=f.cells)
  |(refine(j _).mono ?_;rintro e w2 ⟨rfl,hb2⟩;replace f:=f.ah hb2;obtain⟨⟨l0,l1,l2⟩,⟨⟨a0,a1,a2⟩,T,U,V⟩,⟨t,r1,r2⟩,x,y,z⟩:=f.cells))
 clear N j t1 t2 t3 t4 t5 t6 q0 q1 q2 p0 p1 p2 hb;by_cases L:i= [47]/\cn=0
 ·obtain⟨rfl,rfl⟩:=L;have m:Hid (r=(bO,10)):=by rw[Hid,P.out,jC,if_pos ⟨rfl,rfl⟩]
  have k:aa [47]=⟨#[47]⟩:=rfl;rw[k];obtain⟨f5,g5⟩:=(p.ah f.ng).cells;have a3:u<w2.heap.size:=lt_of_lt_of_le s f.ng.size;have a6:u≠w.heap.size:=Nat.ne_of_lt s;clear P
  go_wp2_with fail
  refine bodyPost_ret (v:=.agg #[.int .i64 0,.int .i64 0,.string ⟨#[]⟩]) (by simp[results,Tryz.results132,go_sem,t,r1,r2]) rfl ?_;rw[m.out];exact⟨rfl,p.fault f.ng (le_refl _) _ _ _ _⟩
 ·obtain⟨n,Q⟩:∃n,n=Mj i o cn:=⟨_,rfl⟩;go_cut [13] (λnv wx=>nv=.int .i64 n/\SG w wx (R,o,S) (W,cn,X))
  case first=>
   have O:Hid (n=Mj i o cn):=Q;clear Q;rcases q with rfl|rfl|rfl|rfl
   ·have k:aa [43]=⟨#[43]⟩:=rfl;rw[k]
    go_wp2_with fail
    go_meet;exact⟨by rw[O.out];rfl,f⟩
   ·have k:aa [45]=⟨#[45]⟩:=rfl;rw[k]
    go_wp2_with fail
    go_meet;exact⟨by rw[O.out];rfl,f⟩
   ·have k:aa [42]=⟨#[42]⟩:=rfl;rw[k]
    go_wp2_with fail
    go_meet;exact⟨by rw[O.out];rfl,f⟩
   ·have k:aa [47]=⟨#[47]⟩:=rfl;have a5:(cn==0)=false:=by
     rw[beq_eq_false_iff_ne];exact λe=>L ⟨rfl,e⟩
    have a4:cn≠0:=λe=>L ⟨rfl,e⟩;rw[k]
    go_wp2_with fail
    go_meet;exact⟨by rw[O.out];rfl,f⟩
  case rest=>
   obtain⟨rfl,A⟩:=hcut;clear f l0 l1 l2 a0 a1 a2 T U V t r1 r2 x y z;obtain⟨⟨l0,l1,l2⟩,⟨⟨a0,a1,a2⟩,T,U,V⟩,⟨t,r1,r2⟩,x,y,z⟩:=A.cells;obtain⟨f5,g5⟩:=(p.ah A.ng).cells;have a3:u<wc.heap.size:=lt_of_lt_of_le s A.ng.size;have g:Hid (r=if aP n then((1,n,[]),0)else(bO,11)):=by rw[Hid,P.out,jC,if_neg L,<-Q]
   clear Q P L B C D E H I F G;by_cases h1:1000000000<n
   ·have m:Hid (r=(bO,11)):=by rw[Hid,g.out,if_neg];simp only[aP,Bool.and_eq_true,decide_eq_true_eq];omega
    clear g
    go_wp2_with fail
    refine bodyPost_ret (v:=.agg #[.int .i64 0,.int .i64 0,.string ⟨#[]⟩]) (by simp[results,Tryz.results132,go_sem,t,r1,r2]) rfl ?_;rw[m.out];exact⟨rfl,p.fault A.ng (le_refl _) _ _ _ _⟩
   ·by_cases h2:n< -1000000000
    ·have m:Hid (r=(bO,11)):=by rw[Hid,g.out,if_neg];simp only[aP,Bool.and_eq_true,decide_eq_true_eq];omega
     clear g
     go_wp2_with fail
     refine bodyPost_ret (v:=.agg #[.int .i64 0,.int .i64 0,.string ⟨#[]⟩]) (by simp[results,Tryz.results132,go_sem,t,r1,r2]) rfl ?_;rw[m.out];exact⟨rfl,p.fault A.ng (le_refl _) _ _ _ _⟩
    ·have m:Hid (r=((1,n,[]),0)):=by rw[Hid,g.out,if_pos];simp only[aP,Bool.and_eq_true,decide_eq_true_eq];omega
     clear g
     go_wp2_with fail
     refine bodyPost_ret (v:=.agg #[.int .i64 1,.int .i64 n,.string ⟨#[]⟩]) (by simp[results,Tryz.results132,go_sem,t,r1,r2]) rfl ?_;rw[m.out];have hb:=aI A.ng (le_refl _) (.int .i64 1) (.int .i64 n) (.string ⟨#[]⟩);exact⟨rfl,p.ah hb,Below.kn hb (by omega)⟩
theorem Gf(w:World)(G:Nat)(fv:Value)(o:Bs)(cv lv:Value)(ns:List Bs)(I:RW w G fv o cv lv ns 0)(v:Value)(cs:List au)(h:aR w v cs)(V:∀c∈cs,c.1≠0)(m:Nat)(hm:cs.length=m+1)(hl:cs.length<=1000)(hs:jU cs=true):Calls prog 132 #[.pointer (some ⟨G,0,none⟩),.string ⟨#[99,97,116]⟩,v] w λe w'=>e=.returned (ja (sO cs).1)/\RW w' G fv o cv lv ns (sO cs).2/\Kr G w w':=by
 obtain⟨ao,cap,rfl,a8,hz⟩:=h;rw[hm];obtain⟨b,f,rfl,hb,K⟩:∃b f,ao=some ⟨b,f,none⟩/\b<w.heap.size/\∀(i:Nat) (c:au),cs[i]? =some c->w.cell? ⟨b,f+i*3,none⟩=some (.int .i64 c.1)/\w.cell? ⟨b,f+i*3+1,none⟩=some (.int .i64 c.2.1)/\w.cell? ⟨b,f+i*3+2,none⟩=some (.string (aa c.2.2)):=by
  rcases hz with h|h
  ·subst h;simp at hm
  ·exact h
 have S:0<cs.length:=by omega
 have y:m<cs.length:=by omega
 obtain⟨L,N,O⟩:=K 0 cs[0] (List.getElem?_eq_getElem S);obtain⟨Z,p1,p2⟩:=K m cs[m] (List.getElem?_eq_getElem y);simp only[zero_mul,add_zero]at L N O;have J:=V cs[0] (List.getElem_mem S);have n:=V cs[m] (List.getElem_mem y);have x:Hid (∀(i:Nat) (c:au),cs[i]? =some c->w.cell? ⟨b,f+i*3+2,none⟩=some (.string (aa c.2.2))):=λi c h=>(K i c h).2.2;have Q:Hid (jU cs=true):=hs;obtain⟨r,W⟩:∃r,r=sO cs:=⟨_,rfl⟩;rw[<-W];have HV:Hid (r=sO cs):=W;obtain⟨a,A⟩:∃a,a=cs[0]:=⟨_,rfl⟩;obtain⟨c,C⟩:∃a,a=cs[m]:=⟨_,rfl⟩;rw[<-A]at L N O J;rw[<-C]at Z p1 p2 n;have H:=fM a c J n;have j:=fM c a n J;have g:=yR w a c;obtain⟨ak,an,al⟩:=a;obtain⟨ck,cn,cl⟩:=c;simp only at L N O Z p1 p2 H j g ⊢;obtain⟨ab,z⟩:∃d,d=mK (ak,an,al) (ck,cn,cl):=⟨_,rfl⟩;obtain⟨bb,B⟩:∃d,d=mK (ck,cn,cl) (ak,an,al):=⟨_,rfl⟩;rw[<-z]at H;rw[<-B]at j;have M:Hid True:=trivial;have X:=I.lt;clear z B V K hz hs W A C J n S y;go_enter Tryz.func132,Tryz.ntmps132
 go_wp2_with(go_at_call 164;first
  |(clear M;refine(H _).mono ?_;rintro e w2 ⟨rfl,hb2⟩;replace g:=g.ah hb2;obtain⟨⟨l0,l1,l2⟩,⟨⟨a0,a1,a2⟩,c0,c1,c2⟩,⟨r0,r1,r2⟩,a3,a4,a5⟩:=g.cells)
  |(refine(j _).mono ?_;rintro e w2 ⟨rfl,hb2⟩;replace g:=g.ah hb2;obtain⟨⟨l0,l1,l2⟩,⟨⟨a0,a1,a2⟩,c0,c1,c2⟩,⟨r0,r1,r2⟩,a3,a4,a5⟩:=g.cells))
 clear H j L N O Z p1 p2;go_loopw [11,12] (λsv Y wr=>∃i:Nat,i<=m+1/\sv=.string (aa (lS (cs.take i)))/\Y=.int .i64 i/\wr=w2) (λ_ Y _=>m+1- (intOf Y).toNat)
 case atStart=>exact⟨0,Nat.zero_le _,by simp[lS];rfl,rfl,rfl⟩
 case round=>
  obtain⟨i,hi,rfl,rfl,rfl⟩:=hrel;by_cases a7:i<m+1
  ·have t:i<cs.length:=by omega
   have q:=(g.ng.cell (p:=⟨b,f+i*3+2,none⟩) hb).trans (x.out i cs[i] (List.getElem?_eq_getElem t));have R:Hid (aa (lS (cs.take i))++aa cs[i].2.2=aa (lS (cs.take (i+1)))):=by rw[Hid,rz cs i t];exact oQ _ _
   have F:¬9223372036854775807<(aa (lS (cs.take i))).size+(aa cs[i].2.2).size:=by
    have y:=qF (zN Q.out (i+1));rw[rz cs i t,List.length_append,List.length_take]at y;rw[aF,aF];omega
   have a6:b<wr.heap.size:=by have:=g.ng.size;omega
   obtain⟨l,E⟩:∃l,l=cs[i].2.2:=⟨_,rfl⟩;obtain⟨d,D⟩:∃l,l=lS (cs.take i):=⟨_,rfl⟩;rw[<-E]at q R F;rw[<-D]at R F ⊢;clear E D
   go_wp2_with fail
   go_roundw
   case rel=>exact⟨i+1,by omega,by rw[R.out],by go_num,by trivial⟩
   case measure=>simp[intOf];omega
  ·have T:cs.take i=cs:=List.take_of_length_le (by omega);rw[T];have U:=qF Q.out;obtain⟨f5,g5⟩:=(I.ah g.ng).cells;have a9:G<wr.heap.size:=lt_of_lt_of_le X g.ng.size;obtain⟨s,u⟩:∃s,s=lS cs:=⟨_,rfl⟩;rw[<-u]at U ⊢;have b0:(aa s).size=s.length:=aF s;have k:Hid (r=if 30<s.length then(bO,12)else((2,0,s),0)):=by rw[Hid,HV.out,sO,<-u]
   clear HV x Q u;by_cases h:30<s.length
   ·have P:Hid (r=(bO,12)):=by rw[Hid,k.out,if_pos h]
    have hd:(30:Int)<(s.length:Int):=by omega
    clear k
    go_wp2_with fail
    refine bodyPost_ret (v:=.agg #[.int .i64 0,.int .i64 0,.string ⟨#[]⟩]) (by simp[results,Tryz.results132,go_sem,r0,r1,r2]) rfl ?_;rw[P.out];exact⟨rfl,I.fault g.ng (le_refl _) _ _ _ _⟩
   ·have P:Hid (r=((2,0,s),0)):=by rw[Hid,k.out,if_neg h]
    have hd:¬(30:Int)<(s.length:Int):=by omega
    clear k
    go_wp2_with fail
    refine bodyPost_ret (v:=.agg #[.int .i64 2,.int .i64 0,.string (aa s)]) (by simp[results,Tryz.results132,go_sem,r0,r1,r2]) rfl ?_;rw[P.out];have hb:=aI g.ng (le_refl _) (.int .i64 2) (.int .i64 0) (.string (aa s));exact⟨rfl,I.ah hb,Below.kn hb (by omega)⟩
def MQ(user:Bs)(args:List au)(tx:Bs):Option au:=if dQ tx then some (1,oP tx,[])else if cz tx then some (2,0,(tx.drop 1).take (tx.length- 1- 1))else if tx=xD then some (2,0,user)else if tx=xC then some (aW true)else if tx=qZ then some (aW false)else if 0<=jS tx then args[(jS tx).toNat]? else none
theorem BM(a:Bs)(h:0<(aa a).size):(aa a)[0]'h=a.getD 0 0:=by
 cases a with
 |nil=>simp[aF]at h
 |cons c l=>rfl
theorem MR(a:Bs):(aa a).extract 1 (a.length- 1)=aa ((a.drop 1).take (a.length- 1- 1)):=by
 apply ByteArray.ext;rw[ByteArray.data_extract];simp[aa]
theorem Dm(w:World)(N:Nat)(Z:Value)(l:Bs)(Y lv:Value)(ns:List Bs)(P:RW w N Z l Y lv ns 0)(O:Value)(args:List au)(hA:aR w O args)(a:Bs)(hl:a.length<=maxLen)(v:au)(d:MQ l args a=some v):Calls prog 128 #[.pointer (some ⟨N,0,none⟩),.string (aa a),O] w λe w'=>e=.returned (ja v)/\Below w.heap.size w w':=by
 have m:∀x:World,Calls prog 180 #[.string (aa a)] x λe w'=>e=.returned (.tuple #[.int .i64 (oP a),.bool (dQ a)])/\w'=x:=by
  intro x;have:=fA (aa a) x (by rw[aF];exact hl);rw[aj]at this;exact this
 have r:∀x:World,Calls prog 183 #[.string (aa a)] x λe w'=>e=.returned (.int .i64 (jS a))/\w'=x:=by
  intro x;have:=dZ (aa a) x;rw[aj]at this;exact this
 obtain⟨X,cap,rfl,_,S⟩:=hA;have u:=ae w (aC 0 0 ⟨#[]⟩);have a2:=heap_alloc_new w (aC 0 0 ⟨#[]⟩);obtain⟨L,g⟩:∃n,n=oP a:=⟨_,rfl⟩;obtain⟨T,f⟩:∃n,n=jS a:=⟨_,rfl⟩;rw[<-g]at m;rw[<-f]at r;have H:Hid (T=jS a):=f;have A:Hid (L=oP a):=g;have a3:=P.lt;unfold MQ at d
 cases t:dQ a with
 |true=>
  rw[t]at m d;have s:Hid (v=(1,L,[])):=by rw[Hid,A.out];exact(Option.some.inj d).symm
  clear d g f t;go_enter Tryz.func128,Tryz.ntmps128
  go_wp2_with(first
   |(go_at_call 180;refine(m _).mono ?_;rintro e w2 ⟨rfl,rfl⟩)
   |(go_at_call 183;refine(r _).mono ?_;rintro e w2 ⟨rfl,rfl⟩))
  refine bodyPost_ret (v:=.agg #[.int .i64 1,.int .i64 L,.string ⟨#[]⟩]) (by simp[results,Tryz.results128,go_sem]) rfl ⟨by rw[s.out];rfl, ?_⟩;exact ae w _
 |false=>
  rw[t,if_neg Bool.false_ne_true]at d;rw[t]at m
  cases o:cz a with
  |true=>
   rw[o,if_pos rfl]at d;simp only[cz,Bool.and_eq_true,decide_eq_true_eq,beq_iff_eq]at o;have K:(aa a).size=a.length:=aF a;have D:2<=a.length:=o.1.1.1.1;have I:a.length<=32:=o.1.1.1.2;have q:0<(aa a).size:=by omega
   have a1:(aa a)[0]'q=39:=(BM a q).trans o.1.1.2;have s:Hid (v=(2,0,(a.drop 1).take (a.length- 1- 1))):=(Option.some.inj d).symm;have W:Hid ((aa a).extract 1 (a.length- 1)=aa ((a.drop 1).take (a.length- 1- 1))):=MR a;clear g f t o d;go_enter Tryz.func128,Tryz.ntmps128
   go_wp2_with(first
    |(go_at_call 180;refine(m _).mono ?_;rintro e w2 ⟨rfl,rfl⟩)
    |(go_at_call 183;refine(r _).mono ?_;rintro e w2 ⟨rfl,rfl⟩))
   refine bodyPost_ret (v:=.agg #[.int .i64 2,.int .i64 0,.string ((aa a).extract 1 (a.length- 1))]) (by simp[results,Tryz.results128,go_sem]) rfl ⟨by rw[s.out,W.out], ?_⟩;exact ae w _
  |false=>
   rw[o,if_neg Bool.false_ne_true]at d;by_cases z:a=xD
   ·subst z;rw[if_pos rfl]at d;have s:Hid (v=(2,0,l)):=(Option.some.inj d).symm;have B:aa xD=⟨#[117,115,101,114]⟩:=rfl;rw[B]at m r ⊢;have M:(w.alloc (aC 0 0 ⟨#[]⟩)).cell? ⟨N,1,none⟩=some (.string (aa l)):=by
     obtain⟨no,nn,nc,hb,_⟩:=P.ah u;exact(ag hb).trans rfl
    clear g f t o d;go_enter Tryz.func128,Tryz.ntmps128
    go_wp2_with(first
     |(go_at_call 180;refine(m _).mono ?_;rintro e w2 ⟨rfl,rfl⟩)
     |(go_at_call 183;refine(r _).mono ?_;rintro e w2 ⟨rfl,rfl⟩))
    refine bodyPost_ret (v:=.agg #[.int .i64 2,.int .i64 0,.string (aa l)]) (by simp[results,Tryz.results128,go_sem]) rfl ⟨by rw[s.out], ?_⟩;exact ae w _
   ·rw[if_neg z]at d;by_cases E:a=xC
    ·subst E;rw[if_pos rfl]at d;have s:Hid (v=aW true):=(Option.some.inj d).symm;have B:aa xC=⟨#[116,114,117,101]⟩:=rfl;rw[B]at m r ⊢;clear g f t o d z;go_enter Tryz.func128,Tryz.ntmps128
     go_wp2_with(first
      |(go_at_call 180;refine(m _).mono ?_;rintro e w2 ⟨rfl,rfl⟩)
      |(go_at_call 183;refine(r _).mono ?_;rintro e w2 ⟨rfl,rfl⟩)
      |(go_at_call 130;refine(eu _ _).mono ?_;rintro e w2 ⟨rfl,rfl⟩))
     refine bodyPost_ret (v:=.agg #[.int .i64 3,.int .i64 1,.string ⟨#[]⟩]) (by simp[results,Tryz.results128,go_sem,gB]) rfl ⟨by rw[s.out];rfl, ?_⟩;exact az w _ _
    ·rw[if_neg E]at d;by_cases F:a=qZ
     ·subst F;rw[if_pos rfl]at d;have s:Hid (v=aW false):=(Option.some.inj d).symm;have B:aa qZ=⟨#[102,97,108,115,101]⟩:=rfl;rw[B]at m r ⊢;clear g f t o d z E;go_enter Tryz.func128,Tryz.ntmps128
      go_wp2_with(first
       |(go_at_call 180;refine(m _).mono ?_;rintro e w2 ⟨rfl,rfl⟩)
       |(go_at_call 183;refine(r _).mono ?_;rintro e w2 ⟨rfl,rfl⟩)
       |(go_at_call 130;refine(eu _ _).mono ?_;rintro e w2 ⟨rfl,rfl⟩))
      refine bodyPost_ret (v:=.agg #[.int .i64 3,.int .i64 0,.string ⟨#[]⟩]) (by simp[results,Tryz.results128,go_sem,gB]) rfl ⟨by rw[s.out];rfl, ?_⟩;exact az w _ _
     ·rw[if_neg F]at d;by_cases G:0<=jS a
      ·rw[if_pos G]at d;have y:iC a=true:=by
        cases h:iC a with
        |true=>rfl
        |false=>rw[jS,h,if_neg Bool.false_ne_true]at G;omega
       simp only[iC,Bool.and_eq_true,decide_eq_true_eq,beq_iff_eq]at y;have K:(aa a).size=a.length:=aF a;have D:a.length=2:=y.1.1.1;have q:0<(aa a).size:=by omega
       have a0:(aa a)[0]'q=36:=(BM a q).trans (by have:=y.1.1.2;rw[<-this];cases a<;>rfl);have t1:((aa a).toList== [117,115,101,114])=false:=by rw[aj];exact beq_eq_false_iff_ne.mpr z
       have t2:((aa a).toList== [116,114,117,101])=false:=by rw[aj];exact beq_eq_false_iff_ne.mpr E
       have t3:((aa a).toList== [102,97,108,115,101])=false:=by rw[aj];exact beq_eq_false_iff_ne.mpr F
       obtain⟨k,R⟩:∃k:Nat,(k:Int)=T:=⟨(jS a).toNat,by rw[f];omega⟩;have C:(jS a).toNat=k:=by rw[<-f,<-R];simp
       rw[C]at d;subst R;have J:k<args.length:=(List.getElem?_eq_some_iff.mp d).1;obtain⟨b,j,rfl,hb,Q⟩:∃b j,X=some ⟨b,j,none⟩/\b<w.heap.size/\∀(i:Nat) (c:au),args[i]? =some c->w.cell? ⟨b,j+i*3,none⟩=some (.int .i64 c.1)/\w.cell? ⟨b,j+i*3+1,none⟩=some (.int .i64 c.2.1)/\w.cell? ⟨b,j+i*3+2,none⟩=some (.string (aa c.2.2)):=by
        rcases S with h|h
        ·subst h;simp at J
        ·exact h
       obtain⟨U,M,V⟩:=Q k v d;have p0:=(u.cell (p:=⟨b,j+k*3,none⟩) hb).trans U;have p1:=(u.cell (p:=⟨b,j+k*3+1,none⟩) hb).trans M;have p2:=(u.cell (p:=⟨b,j+k*3+2,none⟩) hb).trans V;obtain⟨vk,vn,vs⟩:=v;simp only at p0 p1 p2 ⊢;clear g f t o d z E F G y Q S C U M V H A;go_enter Tryz.func128,Tryz.ntmps128
       go_wp2_with(first
        |(go_at_call 180;refine(m _).mono ?_;rintro e w2 ⟨rfl,rfl⟩)
        |(go_at_call 183;refine(r _).mono ?_;rintro e w2 ⟨rfl,rfl⟩))
       refine bodyPost_ret (v:=.agg #[.int .i64 vk,.int .i64 vn,.string (aa vs)]) (by simp[results,Tryz.results128,go_sem]) rfl ⟨rfl, ?_⟩;exact ae w _
      ·rw[if_neg G]at d;cases d
def iB(rb:Nat)(fv:Value)(user:Bs)(cv lv:Value)(r:Rs)(x:World)(e:Ending)(w':World):Prop:=e=.returned (ja r.1)/\RW w' rb fv user cv lv r.2.2 r.2.1/\Kr rb x w'
structure Qu(w0:World)(g i:Nat)(t:Tr)(ao:Option Addr)(c2:Nat)(ty:Int)(is:List Nat)(l:List Tr):Prop where
 lt:g<w0.heap.size
 at':∀x,Below w0.heap.size w0 x->x.cell? ⟨g,i*4,none⟩=some (.string (aa t.tx))/\x.cell? ⟨g,i*4+1,none⟩=some (.bool t.br)/\x.cell? ⟨g,i*4+2,none⟩=some (.slice ao t.ops.length c2)/\x.cell? ⟨g,i*4+3,none⟩=some (.int .u8 ty)
 len:is.length=t.ops.length
 Oq:t.ops.length<=1000
 ix:∀(m q:Nat),is[m]? =some q->q<i/\l[q]? =t.ops[m]?
 op:∀(m q:Nat),is[m]? =some q->∃b,ao=some ⟨b,0,none⟩/\b<w0.heap.size/\t.ops.length<=c2/\∀x,Below w0.heap.size w0 x->x.cell? ⟨b,m,none⟩=some (.int .i64 (q:Int))
theorem iL.nat{w0:World}{g cap:Nat}{l:List Tr}{ty:Nat->Int}{cs:List Value}(h:iL w0 g cap l ty cs){i:Nat}{t:Tr}(k:l[i]? =some t):∃d f is,Qu w0 g i t d f (ty i) is l:=by
 obtain⟨d,f,is,s,u,v,w,j,o,r⟩:=h.at k;have c:=h.lt;refine⟨d,f,is,c,λx a=>⟨(a.cell (p:=⟨g,_,none⟩) c).trans s,(a.cell (p:=⟨g,_,none⟩) c).trans u,(a.cell (p:=⟨g,_,none⟩) c).trans v,(a.cell (p:=⟨g,_,none⟩) c).trans w⟩,j,h.Oq t (List.mem_of_getElem? k),o,λm q n=> ?_⟩;rcases r with h|⟨b,e,hb,hc,hq⟩
 ·rw[h,List.length_nil]at j;have:=(List.getElem?_eq_some_iff.mp n).1;omega
 ·exact⟨b,e,hb,hc,λx a=>(a.cell (p:=⟨b,_,none⟩) hb).trans (hq m q n)⟩
abbrev DN(tx:Bs)(br:Bool)(ao:Option Addr)(n c2:Nat)(ty:Int):Obj:=.cells #[.string (aa tx),.bool br,.slice ao n c2,.int .u8 ty] 183
abbrev RV(rb g n cap i:Nat)(ao:Option Addr)(an ac:Nat)(x:World)(Q:Ending->World->Prop):Prop:=Calls prog 75 #[.pointer (some ⟨rb,0,none⟩),.agg #[.slice (some ⟨g,0,none⟩) n cap],.int .i64 (i:Int),.slice ao an ac] x Q
abbrev xI(g n cap:Nat):Obj:=.cells #[.slice (some ⟨g,0,none⟩) n cap] 102
structure lQ(rb:Nat)(x y:World)(g n cap:Nat)(tx:Bs)(br:Bool)(bo:Option Addr)(on c2:Nat)(ty:Int):Prop where
 kr:Kr rb x y
 b0:y.heap[x.heap.size]? =some (xI g n cap)
 b1:y.heap[x.heap.size+1]? =some (aC 0 0 ⟨#[]⟩)
 b2:y.heap[x.heap.size+1+1]? =some (DN tx br bo on c2 ty)
theorem lQ.ah{a:Nat}{x y z:World}{g n cap:Nat}{f:Bs}{c:Bool}{b:Option Addr}{e d:Nat}{ty:Int}(h:lQ a x y g n cap f c b e d ty)(k:Kr a y z):lQ a x z g n cap f c b e d ty:=
 ⟨h.kr.trans k,k.2 _ _ _ _ h.b0 (by decide) (by decide),k.2 _ _ _ _ h.b1 (by decide) (by decide),k.2 _ _ _ _ h.b2 (by decide) (by decide)⟩
theorem lQ.drew{e:Nat}{x y:World}{g n cap:Nat}{f:Bs}{b:Bool}{a:Option Addr}{d c:Nat}{ty:Int}(h:lQ e x y g n cap f b a d c ty):lQ e x y.drew g n cap f b a d c ty:=⟨⟨h.kr.1.drew,h.kr.2⟩,h.b0,h.b1,h.b2⟩
theorem lQ.mq{a:Nat}{x y:World}{g n cap:Nat}{i:Bs}{d:Bool}{c:Option Addr}{f e:Nat}{ty:Int}(h:lQ a x y g n cap i d c f e ty){b:Nat}(j:a<=x.heap.size)(hb:x.heap.size+1+1<b)(a0 a1 a2:Value):lQ a x (((y.setCell ⟨b,0,none⟩ a0).setCell ⟨b,1,none⟩ a1).setCell ⟨b,2,none⟩ a2) g n cap i d c f e ty:=
 ⟨h.kr.mq j (by omega) _ _ _,(bF _ _ _ _ _ _ (by omega)).trans h.b0,(bF _ _ _ _ _ _ (by omega)).trans h.b1,(bF _ _ _ _ _ _ (by omega)).trans h.b2⟩
theorem qY{rb:Nat}{x:World}(f:rb<=x.heap.size)(g n cap:Nat)(e:Bs)(b:Bool)(a:Option Addr)(d c:Nat)(ty:Int):lQ rb x (((x.alloc (xI g n cap)).alloc (aC 0 0 ⟨#[]⟩)).alloc (DN e b a d c ty)) g n cap e b a d c ty:=by
 obtain⟨h,i,j⟩:=NK x (xI g n cap) (aC 0 0 ⟨#[]⟩) (DN e b a d c ty);exact⟨Below.kn (dA x _ _ _) f,h,i,j⟩
theorem lQ.cells{rb:Nat}{x y:World}{g n cap:Nat}{e:Bs}{b:Bool}{a:Option Addr}{d c:Nat}{ty:Int}(h:lQ rb x y g n cap e b a d c ty):(x.heap.size<y.heap.size/\x.heap.size+1<y.heap.size/\x.heap.size+1+1<y.heap.size)/\y.cell? ⟨x.heap.size,0,none⟩=some (.slice (some ⟨g,0,none⟩) n cap)/\
  (y.cell? ⟨x.heap.size+1+1,0,none⟩=some (.string (aa e))/\y.cell? ⟨x.heap.size+1+1,1,none⟩=some (.bool b)/\y.cell? ⟨x.heap.size+1+1,2,none⟩=some (.slice a d c)/\y.cell? ⟨x.heap.size+1+1,3,none⟩=some (.int .u8 ty))/\
  (y.cell? ⟨x.heap.size+1,0,none⟩=some (.int .i64 0)/\y.cell? ⟨x.heap.size+1,1,none⟩=some (.int .i64 0)/\y.cell? ⟨x.heap.size+1,2,none⟩=some (.string ⟨#[]⟩))/\(y.frozen? ⟨x.heap.size+1,0,none⟩=false/\y.frozen? ⟨x.heap.size+1,1,none⟩=false/\y.frozen? ⟨x.heap.size+1,2,none⟩=false):=
 ⟨⟨af h.b0,af h.b1,af h.b2⟩,(ag h.b0).trans rfl,(bB h.b2).1,aJ h.b1⟩
theorem Dn{w0:World}{g cap n i:Nat}{l:List Tr}{t:Tr}{o:Option Addr}{p:Nat}{ty:Int}{is:List Nat}(j:Qu w0 g i t o p ty is l)(C:i<n){x:World}{r:Nat}{A:Value}{f:Bs}{y F:Value}{ns:List Bs}{k:Int}(q:k≠0)(m:RW x r A f y F ns k)(h:Below w0.heap.size w0 x)(w:Option Addr)(u s:Nat):
  RV r g n cap i w u s x λe w'=>e=.returned (ja bO)/\Below x.heap.size x w':=by
 obtain⟨G,H,I,M⟩:=j.at' _ (h.trans ((az x (xI g n cap) (aC 0 0 ⟨#[]⟩)).mono h.size));have K:g<x.heap.size:=lt_of_lt_of_le j.lt h.size;have E:=m.lt;have a:=dA x (xI g n cap) (aC 0 0 ⟨#[]⟩) (DN t.tx t.br o t.ops.length p ty);obtain⟨f5,B⟩:=(m.ah a).cells;have D:(k==0)=false:=by simpa using q
 obtain⟨N,d⟩:∃z,z=t.tx:=⟨_,rfl⟩;obtain⟨J,b⟩:∃z,z=t.br:=⟨_,rfl⟩;obtain⟨L,c⟩:∃z,z=t.ops.length:=⟨_,rfl⟩;rw[<-d,<-b,<-c]at f5 B a;rw[<-d]at G;rw[<-b]at H;rw[<-c]at I;clear d b c j m q;go_enter Tryz.func75,Tryz.ntmps75
 go_wp2_with fail
 refine bodyPost_ret (v:=.agg #[.int .i64 0,.int .i64 0,.string ⟨#[]⟩]) (by simp[results,Tryz.results75,go_sem]) rfl ⟨rfl, ?_⟩;exact a
theorem RW.mq{x:World}{d:Nat}{j:Value}{a:Bs}{i o:Value}{ns:List Bs}{k:Int}(h:RW x d j a i o ns k){b:Nat}{c:Array Value}{p:Nat × Nat}(hb:x.heap[b]? =some (.cells c 56 p))(a0 a1 a2:Value):RW (((x.setCell ⟨b,0,none⟩ a0).setCell ⟨b,1,none⟩ a1).setCell ⟨b,2,none⟩ a2) d j a i o ns k:=by
 obtain⟨t,s,r,l,m⟩:=h;refine⟨t,s,r,(bF x b d _ _ _ (λe=> ?_)).trans l,aA m λg n=>bF x b g _ _ _ λe=> ?_⟩
 ·subst e;rw[l]at hb;cases hb
 ·subst e;rcases m.2 with⟨e,_⟩|⟨u,cap,f,e,_,q,_⟩
  ·cases e;cases n
  ·cases e;cases n;rw[q]at hb;cases hb
theorem iB.end{c:Nat}{g:Value}{a:Bs}{f h:Value}{r:Rs}{w x:World}{e:Ending}(j:e=.returned (ja r.1))(m:c<w.heap.size)(k:RW x c g a f h r.2.2 r.2.1)(kn:Kr c w x){b:Nat}(hb:w.heap.size<=b){d:Array Value}{i:Nat × Nat}(l:x.heap[b]? =some (.cells d 56 i))(a0 a1 a2:Value):iB c g a f h r w e (((x.setCell ⟨b,0,none⟩ a0).setCell ⟨b,1,none⟩ a1).setCell ⟨b,2,none⟩ a2):=
 ⟨j,k.mq l _ _ _,kn.mq (by omega) hb _ _ _⟩
theorem Gn{w0:World}{g cap n i:Nat}{l:List Tr}{t:Tr}{s:Option Addr}{u:Nat}{ty:Int}{is:List Nat}(y:Qu w0 g i t s u ty is l)(J:i<n){x:World}{h:Nat}{m:Value}{a:Bs}{k o:Value}{ns:List Bs}(j:RW x h m a k o ns 0)(w:Below w0.heap.size w0 x){r:Option Addr}{q p:Nat}{args:List au}(D:aR x (.slice r q p) args)(A:t.br=false)(F:t.tx.length<=maxLen)(v:au)(G:MQ a args t.tx=some v):
  RV h g n cap i r q p x λe w'=>iB h m a k o (v,0,ns) x e w':=by
 obtain⟨K,L,M,Y⟩:=y.at' _ (w.trans ((az x (xI g n cap) (aC 0 0 ⟨#[]⟩)).mono w.size));have R:g<x.heap.size:=lt_of_lt_of_le y.lt w.size;have B:=j.lt;have b:=dA x (xI g n cap) (aC 0 0 ⟨#[]⟩) (DN t.tx false s t.ops.length u ty);have E:=qY (rb:=h) (x:=x) (by omega) g n cap t.tx false s t.ops.length u ty;have C:=Dm _ h m a k o ns (j.ah b) (.slice r q p) args (D.ah b) t.tx F v G;obtain⟨f5,I⟩:=(j.ah b).cells;rw[A]at L;obtain⟨Z,f⟩:∃z,z=t.tx:=⟨_,rfl⟩;obtain⟨X,d⟩:∃z,z=t.ops.length:=⟨_,rfl⟩;rw[<-f,<-d]at f5 I b C E;rw[<-f]at K;rw[<-d]at M;have H:Hid (RW x h m a k o ns 0):=j;clear f d y j G D F;go_enter Tryz.func75,Tryz.ntmps75
 go_wp2_with(go_at_call 128;refine C.mono ?_;rintro e w2 ⟨rfl,hb3⟩;have c:=E.ah (Below.kn hb3 (by simp only[size_alloc];omega));obtain⟨⟨S,l1,l2⟩,a0,⟨T,U,V,W⟩,⟨N,r1,r2⟩,O,P,Q⟩:=c.cells)
 refine bodyPost_ret (v:=.agg #[.int .i64 v.1,.int .i64 v.2.1,.string (aa v.2.2)]) (by simp[results,Tryz.results75,go_sem,N,r1,r2]) rfl ?_;exact iB.end rfl B (RW.ah (RW.ah H.out b) hb3) c.kr (by omega) c.b1 _ _ _
end Go.Proofs.YtdifpeaklamhnaaGreatDoor
