import Derived.Test.YtdifpeaklamhnaaGreatDoorLoLZ
import Derived.Test.YtdifpeaklamhnaaGreatDoorBaFZ
set_option linter.unusedVariables false
set_option linter.unusedSimpArgs false
set_option maxRecDepth 100000
set_option maxHeartbeats 0
namespace Go.Proofs.YtdifpeaklamhnaaGreatDoor
open Go.RowKit
open List (flatMap_cons eq_nil_of_length_eq_zero getElem?_eq_getElem)
open Value (string int)
open Nat (zero_mul zero_add)
def kK(fs:List mM):List Value:=fs.flatMap λf=>[.string (aa f.1),.string (aa f.2.1),.string (aa f.2.2)]
def jL(cs:List dL):List Value:=cs.flatMap λc=>[.string (aa c.1),.string (aa c.2.1),.int .i64 c.2.2]
def eU(cs:List aj):List Value:=cs.flatMap λc=>[.int .i64 c.1,.int .i64 c.2.1,.string (aa c.2.2)]
def gu(ls:List Bs):List Value:=ls.map λl=>.string (aa l)
theorem kX{α:Type}(f:α->List Value)(c:∀a,(f a).length=3):∀(l:List α) (i j:Nat) (a:α),l[i]? =some a->j<3->(l.flatMap f)[i*3+j]? =(f a)[j]?
 | [],i,j,a,h,_=>by simp at h
 |b::r,0,j,a,h,hj=>by
  simp at h;subst h;rw[zero_mul,zero_add,flatMap_cons,List.getElem?_append_left (by rw[c];exact hj)]
 |b::r,i+1,j,a,h,hj=>by
  have:=kX f c r i j a (by simpa using h) hj;rw[flatMap_cons,List.getElem?_append_right (by rw[c];omega),c,show(i+1)*3+j- 3=i*3+j by omega];exact this
theorem vC{α:Type}(f:α->List Value)(c:∀a,(f a).length=3)(l:List α):(l.flatMap f).length=l.length*3:=by
 induction l with
 |nil=>rfl
 |cons b r ih=>rw[flatMap_cons,List.length_append,c,ih,List.length_cons];omega
structure NF(s:kU)(t:aJ):Prop where
 name:s.name=aa t.name
 count:s.count=t.count
 aD:s.aD=aa t.aD
 Wd:s.k.cs=jL t.ax
 kn:s.k.rn=t.ax.length
 Wm:s.u.cs=gu t.eZ
 un:s.u.rn=t.eZ.length
 rn:s.rn=t.rows.length
 rl:s.rows.length=t.rows.length
 rows:∀(i:Nat) (r:fD) (c:List aj),s.rows[i]? =some r->t.rows[i]? =some c->r.cs=eU c/\r.rn=c.length
 SC:t.name.length<=maxLen
 KD:t.aD.length<=maxLen
 VP:∀c∈t.ax,c.1.length<=maxLen/\c.2.1.length<=maxLen
structure DD(w:World)(fo:Option Addr)(fl fc:Nat)(to':Option Addr)(tl tc:Nat)(fs:List mM)(ts:List aJ):Prop where
 texts:fT w (.slice fo fl fc) fs
 args:∀f∈fs,f.2.1.length<=maxLen
 Uu:jI w (.slice to' tl tc) ts
 Vl:mW Sw w 3 ⟨fo,fl,fc,kK fs⟩
 VY:tl<=1048576
 VD:to'=none->tl=0/\tc=0
 dS:∃dS,pz w to' tl dS/\(∀s∈dS,yl w s)/\dS.length=ts.length/\∀(i:Nat) (s:kU) (t:aJ),dS[i]? =some s->ts[i]? =some t->NF s t
theorem oK{d:Ln->Prop}{w:World}{T:TypeId}{z lo:Nat}{a:Nat->Value}{l:Ln}(h:qf d w T z a lo l){j:Nat}{v:Value}(b:l.cs[j]? =some v):w.cell? ⟨l.g,j,none⟩=some v:=by
 have e:=(List.getElem?_eq_some_iff.mp b).1;have c:=h.len;exact(h.row.cell (i:=j) (by have:l.n*z<=(l.n+3)*z:=Nat.mul_le_mul_right _ (by omega);omega)).trans (by rw[iI b])
theorem IZ{w0 w:World}{lo n m:Nat}{o:Option Addr}{F:List Ln}{a:List mM}{xo:Option Addr}{xn xc:Nat}(hF:∀l∈F,qf (rV Sw w0 3) w 48 3 yI lo l)(h:dV F ⟨o,n,m,kK a⟩ (.slice xo xn xc))(y:fT w0 (.slice o n m) a):fT w (.slice xo xn xc) a:=by
 obtain⟨B,cap,r,k,A⟩:=y
 cases r;rcases h with⟨p,e⟩|⟨g,e,v⟩
 ·dsimp only at p;cases e;have s:a= []:=eq_nil_of_length_eq_zero p;subst s;exact⟨none,0,rfl,by simp,.inl rfl⟩
 ·cases e;refine⟨_,_,rfl,k, ?_⟩;rcases A with h|⟨b,off,_,_,hc⟩
  ·exact .inl h
  ·have c:=hF _ v;refine .inr ⟨g,0,rfl,c.row.lt,λi f q=> ?_⟩;have d:∀(j:Nat) (u:Value),j<3->([string (aa f.1),.string (aa f.2.1),.string (aa f.2.2)]:List Value)[j]? =some u->w.cell? ⟨g,0+i*3+j,none⟩=some u:=λj u t x=>by
    rw[zero_add];have z:=kX (λf:mM=>[string (aa f.1),.string (aa f.2.1),.string (aa f.2.2)]) (λ_=>rfl) a i j f q t;exact oK c (z.trans x)
   exact⟨⟨d 0 _ (by omega) rfl,d 1 _ (by omega) rfl,d 2 _ (by omega) rfl⟩,(hc i f q).2⟩
theorem Mh{w0 w:World}{lo:Nat}{k:fD}{K:List Ln}{cs:List dL}{xo:Option Addr}{xn xc:Nat}(n:∀l∈K,qf (rV KZ w0 3) w 50 3 rQ lo l)(h:dV K k (.slice xo xn xc))(q:k.cs=jL cs)(m:k.rn=cs.length)(x:k.rn<=1048576)(r:∀c∈cs,c.1.length<=maxLen/\c.2.1.length<=maxLen):dM w (.slice xo xn xc) cs:=by
 rcases h with⟨v,e⟩|⟨g,e,b⟩
 ·cases e;have o:cs= []:=eq_nil_of_length_eq_zero (by omega);subst o;exact⟨none,0,rfl,Nat.le_refl _,by simp,.inl rfl⟩
 ·cases e;have a:=n _ b;refine⟨_,_,by rw[m],by rw[<-m];omega,by unfold maxLen;omega,.inr ⟨g,0,rfl,a.row.lt,λi c f=> ?_⟩⟩;have d:∀(j:Nat) (u:Value),j<3->([string (aa c.1),.string (aa c.2.1),.int .i64 c.2.2]:List Value)[j]? =some u->w.cell? ⟨g,0+i*3+j,none⟩=some u:=λj u p s=>by
   rw[zero_add];have t:=kX (λc:dL=>[string (aa c.1),.string (aa c.2.1),.int .i64 c.2.2]) (λ_=>rfl) cs i j c f p;refine oK a ?_;show k.cs[i*3+j]? =_;rw[q];exact t.trans s
  exact⟨⟨d 0 _ (by omega) rfl,d 1 _ (by omega) rfl,d 2 _ (by omega) rfl⟩,r c (List.mem_of_getElem? f)⟩
theorem IY{w0 w:World}{lo:Nat}{k:fD}{C:List Ln}{cs:List aj}{xo:Option Addr}{xn xc:Nat}(m:∀l∈C,qf (rV Hu w0 3) w 56 3 oF lo l)(h:dV C k (.slice xo xn xc))(q:k.cs=eU cs)(r:k.rn=cs.length):aO w (.slice xo xn xc) cs:=by
 rcases h with⟨v,e⟩|⟨g,e,b⟩
 ·cases e;have n:cs= []:=eq_nil_of_length_eq_zero (by omega);subst n;exact⟨none,0,rfl,by simp,.inl rfl⟩
 ·cases e;have a:=m _ b;have f:=a.small;dsimp only at f;refine⟨_,_,by rw[r],by unfold maxLen;omega,.inr ⟨g,0,rfl,a.row.lt,λi c o=> ?_⟩⟩;have d:∀(j:Nat) (u:Value),j<3->([int .i64 c.1,.int .i64 c.2.1,.string (aa c.2.2)]:List Value)[j]? =some u->w.cell? ⟨g,0+i*3+j,none⟩=some u:=λj u p s=>by
   rw[zero_add];have t:=kX (λc:aj=>[int .i64 c.1,.int .i64 c.2.1,.string (aa c.2.2)]) (λ_=>rfl) cs i j c o p;refine oK a ?_;show k.cs[i*3+j]? =_;rw[q];exact t.trans s
  exact⟨d 0 _ (by omega) rfl,d 1 _ (by omega) rfl,d 2 _ (by omega) rfl⟩
theorem Mj{w0 w:World}{lo:Nat}{k:fD}{X:List Ln}{c:List Bs}{xo:Option Addr}{xn xc:Nat}(f:∀l∈X,qf (rV La w0 1) w 9 1 rR lo l)(h:dV X k (.slice xo xn xc))(n:k.cs=gu c)(o:k.rn=c.length):eD w (.slice xo xn xc) c:=by
 rcases h with⟨p,e⟩|⟨g,e,b⟩
 ·cases e;have j:c= []:=eq_nil_of_length_eq_zero (by omega);subst j;exact⟨none,0,rfl,by simp,.inl rfl⟩
 ·cases e;have a:=f _ b;have d:=a.small;dsimp only at d;refine⟨_,_,by rw[o],by unfold maxLen;omega,.inr ⟨g,0,rfl,a.row.lt,λi l m=> ?_⟩⟩;rw[zero_add];refine oK a ?_;show k.cs[i]? =_;rw[n,gu,List.getElem?_map,m];rfl
theorem Qp{w0:World}{z n:Nat}{wo:Option Addr}{cs d:List Value}(h:iU w0 z wo n cs)(f:iU w0 z wo n d):cs=d:=by
 apply List.ext_getElem?;intro j;by_cases g:j<cs.length
 ·have c:j<d.length:=by rw[f.1,<-h.1];exact g
  rcases h.2 with h0|⟨b,off,e,_,hc⟩
  ·have:=h.1;rw[h0,zero_mul]at this;omega
  ·rcases f.2 with h0|⟨b',off',i,_,hc'⟩
   ·have:=h.1;rw[h0,zero_mul]at this;omega
   ·rw[e]at i;cases i;have a:=hc j _ (getElem?_eq_getElem g);have b:=hc' j _ (getElem?_eq_getElem c);rw[a]at b;rw[getElem?_eq_getElem g,getElem?_eq_getElem c];exact b
 ·rw[List.getElem?_eq_none (by omega),List.getElem?_eq_none (by rw[f.1,<-h.1];omega)]
theorem pU{w0:World}{z:Nat}{L:List Ln}{k a:fD}{v:Value}(h:dV L a v)(j:∀l∈L,iU w0 z l.wo l.n l.cs)(d:a.ro=k.ro)(b:a.rn=k.rn)(i:a.rc=k.rc)(m:iU w0 z k.ro k.rn k.cs):dV L k v:=by
 rcases h with⟨o,e⟩|⟨g,e,f⟩
 ·exact .inl ⟨by omega,e⟩
 ·have c:=j _ f;dsimp only at c;rw[d,b]at c;refine .inr ⟨g,by rw[e,b], ?_⟩;rw[<-Qp c m,<-d,<-b,<-i];exact f
theorem Mi{w0 w:World}{lo:Nat}{R C:List Ln}{ro:Option Addr}{rn rc:Nat}{rows:List fD}{n:List (List aj)}{xo:Option Addr}{xn xc:Nat}(T:∀l∈R,qf (SQ w0 C) w 57 1 uB lo l)(J:∀l∈C,qf (rV Hu w0 3) w 56 3 oF lo l)(h:qa R ro rn rc (.slice xo xn xc))(Z:lI w0 ro rn rows)(D:∀r∈rows,wE w0 r)(Y:rn=n.length)(L:rows.length=n.length)
  (t:∀(i:Nat) (r:fD) (c:List aj),rows[i]? =some r->n[i]? =some c->r.cs=eU c/\r.rn=c.length):RowsIn w (.slice xo xn xc) n:=by
 rcases h with⟨x,e⟩|⟨g,S,e,o⟩
 ·cases e;have W:n= []:=eq_nil_of_length_eq_zero (by omega);subst W;exact⟨none,0,rfl,by simp,.inl rfl⟩
 ·cases e;have f:=T _ o;have F:=f.small;dsimp only at F;refine⟨_,_,by rw[Y],by unfold maxLen;omega, ?_⟩;by_cases x:n= []
  ·exact .inl x
  have M:0<n.length:=List.length_pos_iff.mpr x;obtain⟨m,⟨B,s⟩,z,a⟩:=f.want;dsimp only at B s z a;obtain⟨b,k,rfl,hb,V⟩:∃b k,ro=some ⟨b,k,none⟩/\b<w0.heap.size/\∀(i:Nat) (r:fD),rows[i]? =some r->w0.cell? ⟨b,k+i,none⟩=some (.slice r.ro r.rn r.rc):=by
   rcases Z.2 with h|h
   ·omega
   ·exact h
  obtain⟨b',O,Q,U,y⟩:=s.resolve_left (by omega)
  cases Q;refine .inr ⟨g,0,rfl,f.row.lt,λi r A=> ?_⟩;have X:=(List.getElem?_eq_some_iff.mp A).1;obtain⟨q,u⟩:∃q,rows[i]? =some q:=⟨_,getElem?_eq_getElem (by omega)⟩;obtain⟨P,p⟩:∃q,m[i]? =some q:=⟨_,getElem?_eq_getElem (by omega)⟩;obtain⟨v,N⟩:∃v,S[i]? =some v:=⟨_,getElem?_eq_getElem (by omega)⟩;have E:=a i P v p N;have K:=V i q u;rw[y i P p]at K;have d:=Option.some.inj K;simp only[Value.slice.injEq]at d;have j:=pU E (λl L=>(J l L).want.1) d.1 d.2.1 d.2.2 (D q (List.mem_of_getElem? u)).want;obtain⟨I,H,G,rfl⟩:∃I H G,v=.slice I H G:=by rcases j with⟨_,rfl⟩|⟨g,rfl,_⟩<;>exact⟨_,_,_,rfl⟩
  rw[zero_add];exact⟨I,H,G,oK f N,IY J j (t i q r u A).1 (t i q r u A).2⟩
theorem Mk{w0 w:World}{mb:Nat}{C R X K B F:List Ln}(hL:bZ w0 w mb C R X K B F){v:Option Addr}{tl tc:Nat}{dS:List kU}{x:List aJ}{xo:Option Addr}{xn xc:Nat}(h:qa B v tl tc (.slice xo xn xc))(hv:jI w0 (.slice v tl tc) x)(hs:pz w0 v tl dS)(U:∀s∈dS,yl w0 s)(a0:dS.length=x.length)
  (V:∀(i:Nat) (s:kU) (t:aJ),dS[i]? =some s->x[i]? =some t->NF s t):jI w (.slice xo xn xc) x:=by
 obtain⟨vc,vr,vx,vk,vb,vf,_,_,hC,hR,hX,hK,hB,_⟩:=hL;obtain⟨ao,cap,he,T,_⟩:=hv
 cases he;rcases h with⟨L,e⟩|⟨g,es,e,D⟩
 ·cases e;have hf:x= []:=eq_nil_of_length_eq_zero L;subst hf;exact⟨none,0,rfl,by simp,.inl rfl⟩
 ·cases e;have o:=hB.each _ D;refine⟨_,_,rfl,T, ?_⟩;by_cases L:x= []
  ·exact .inl L
  have a1:0<x.length:=List.length_pos_iff.mpr L;obtain⟨r,⟨S,E⟩,O,c⟩:=o.want;dsimp only at S E O c;obtain⟨b,a5,rfl,hb,hc⟩:=hs.2.resolve_left (by omega);obtain⟨b',a2,e',a3,M⟩:=E.resolve_left (by omega)
  cases e';refine .inr ⟨g,0,rfl,o.row.lt,λi t hi=> ?_⟩;have a4:=(List.getElem?_eq_some_iff.mp hi).1;obtain⟨s,q⟩:∃s,dS[i]? =some s:=⟨_,getElem?_eq_getElem (by omega)⟩;obtain⟨s',d⟩:∃s,r[i]? =some s:=⟨_,getElem?_eq_getElem (by omega)⟩;obtain⟨kv,rv,xv,N,P,p,W⟩:=c i s' d;obtain⟨p0,p1,p2,p3,p4,p5⟩:=hc i s q;obtain⟨Y,H,I,Z,q4,J⟩:=M i s' d;rw[p0]at Y;rw[p1]at H;rw[p2]at I;rw[p3]at Z;rw[p4]at q4;rw[p5]at J;simp only[Option.some.injEq,Value.string.injEq,Value.slice.injEq,Value.int.injEq,true_and]at Y H I Z q4 J;have a:=V i s t q hi;have z:=U s (List.mem_of_getElem? q);have A:=pU P (λl Q=>(hK.each l Q).want.1) H.1.symm H.2.1.symm H.2.2.symm z.k.want;have G:=pU W (λl Q=>(hX.each l Q).want.1) J.1.symm J.2.1.symm J.2.2.symm z.u.want;rw[<-I.1,<-I.2.1,<-I.2.2]at p;obtain⟨ko,kn,kc,rfl⟩:∃n m f,kv=.slice n m f:=by rcases A with⟨_,rfl⟩|⟨g,rfl,_⟩<;>exact⟨_,_,_,rfl⟩
  obtain⟨uo,un,uc,rfl⟩:∃n m f,xv=.slice n m f:=by rcases G with⟨_,rfl⟩|⟨g,rfl,_⟩<;>exact⟨_,_,_,rfl⟩
  obtain⟨n,m,f,rfl⟩:∃n m f,rv=.slice n m f:=by rcases p with⟨_,rfl⟩|⟨g,es,rfl,_⟩<;>exact⟨_,_,_,rfl⟩
  have y:∀(j:Nat) (u:Value),j<6->(qV s' (.slice ko kn kc) (.slice n m f) (.slice uo un uc))[j]? =some u->w.cell? ⟨g,0+i*6+j,none⟩=some u:=λj u hj hu=>by
   rw[zero_add];exact oK o ((N j hj).trans hu)
  refine⟨ko,kn,kc,n,m,f,uo,un,uc,⟨?_,y 1 _ (by omega) rfl,y 2 _ (by omega) rfl, ?_, ?_,y 5 _ (by omega) rfl⟩,Mh hK.each A a.Wd a.kn z.k.small a.VP,Mi hR.each hC.each p z.rows z.each a.rn a.rl a.rows,Mj hX.each G a.Wm a.un,a.SC,a.KD⟩
  ·rw[<-a.name,Y];exact y 0 _ (by omega) rfl
  ·rw[<-a.count,Z];exact y 3 _ (by omega) rfl
  ·rw[<-a.aD,q4];exact y 4 _ (by omega) rfl
end Go.Proofs.YtdifpeaklamhnaaGreatDoor
