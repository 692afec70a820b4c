import Derived.Test.YtdifpeaklamhnaaGreatDoorBkDZ
set_option linter.unusedVariables false
set_option linter.unusedSimpArgs false
set_option maxRecDepth 100000
set_option maxHeartbeats 0
namespace Go.Proofs.YtdifpeaklamhnaaGreatDoor
open Go.Proofs.Tryz
open Go.RowKit
open List (replicate length_replicate mem_cons not_mem_nil)
open Value (int slice)
open World (news_of_block ownsRow_nil frozen? setCell)
open Below (refl heap_setCell heap_alloc)
open Nat (zero_le mul_one sub_self)
def Ns(w:World)(v:Value)(z:Int):Prop:=∃(ao:Option Addr) (n cap:Nat),v=.slice ao n cap/\n<=1000000/\(n=0\/∃b off,ao=some ⟨b,off,none⟩/\b<w.heap.size/\∀i,i<n->w.cell? ⟨b,off+i,none⟩=some (.int .i64 z))
theorem Ns.ag{w x:World}{v:Value}{z:Int}(h:Ns w v z)(hb:Below w.heap.size w x):Ns x v z:=by
 obtain⟨a,n,cap,c,d,f⟩:=h;refine⟨a,n,cap,c,d, ?_⟩;rcases f with h|⟨b,off,e,hl,hc⟩
 ·exact .inl h
 ·exact .inr ⟨b,off,e,Nat.lt_of_lt_of_le hl hb.size,λi g=>(hb.cell (p:=⟨b,off+i,none⟩) hl).trans (hc i g)⟩
theorem Ef(w:World)(v:Value)(n:Nat)(p:n<=16000000)(h:Ns w v (-1000- (n:Int))):Calls prog 18 #[v,.int .i64 (n:Int)] w λe w'=>e=.returned (.bool true)/\Below w.heap.size w w':=by
 obtain⟨l,k,cap,rfl,o,d⟩:=h;go_enter Tryz.func18,Tryz.ntmps18
 go_wp2_with fail
 go_loopg [5] k (λgk g wr=>∃i:Nat,gk=k- i/\i<=k/\g=.int .i64 i/\wr=w)
 case atStart=>exact⟨0,rfl,zero_le _,rfl,rfl⟩
 case round=>
  obtain⟨i,a,m,rfl,rfl⟩:=hrel;subst a;by_cases c:i<k
  ·obtain⟨b,j,rfl,hb,f⟩:=d.resolve_left (by omega);have q:=f i c;clear f d
   go_wp2_with fail
   go_roundg (k- (i+1))
   case measure=>omega
   case rel=>exact⟨i+1,rfl,by omega,by go_num,by trivial⟩
  ·clear d
   go_wp2_with fail
   go_ret;exact⟨rfl,refl _ _⟩
theorem xu(w:World)(u v:Value)(g:List Int)(E:bi w u g)(F:bi w v g):Calls prog 37 #[u,v] w λe w'=>e=.returned (.bool true)/\Below w.heap.size w w':=by
 obtain⟨J,cap,rfl,C,t⟩:=E;obtain⟨K,y,rfl,_,r⟩:=F;obtain⟨k,a⟩:∃k,k=g.length:=⟨_,rfl⟩;rw[<-a];rw[<-a]at C;have h:Hid _:=a;clear a;go_enter Tryz.func37,Tryz.ntmps37
 go_wp2_with fail
 go_loopg [5] k (λgk G wr=>∃i:Nat,gk=k- i/\i<=k/\G=.int .i64 i/\Below w.heap.size w wr)
 case atStart=>exact⟨0,rfl,zero_le _,rfl,refl _ _⟩
 case round=>
  obtain⟨i,o,L,rfl,f⟩:=hrel;subst o;have M:=f.size;by_cases D:i<k
  ·have d:g≠ []:=by intro e;have:=h.out;rw[e]at this;simp at this;omega
   obtain⟨b,x,rfl,hb,A⟩:=t.resolve_left d;obtain⟨b2,m,rfl,n,j⟩:=r.resolve_left d;have c:i<g.length:=by have:=h.out;omega
   have H:=(f.cell (p:=⟨b,x+i,none⟩) hb).trans (A i _ (List.getElem?_eq_getElem c));have I:=(f.cell (p:=⟨b2,m+i,none⟩) n).trans (j i _ (List.getElem?_eq_getElem c));have B:b<wr.heap.size:=by omega
   have z:b2<wr.heap.size:=by omega
   obtain⟨s,l⟩:∃s,s=g[i]:=⟨_,rfl⟩;rw[<-l]at H I;clear A j t r l c d;generalize q:wr=wo at*;clear q;go_upto_region 6 with fail
   go_region;all_goals go_wp2_with fail
   all_goals
    go_roundg (k- (i+1))
    case measure=>omega
    case rel=>exact⟨i+1,rfl,by omega,by go_num,by first|exact f|exact f.drew⟩
  ·clear t r
   go_wp2_with fail
   go_ret;exact⟨rfl,f⟩
def qm(w:World)(base:Nat)(m v:Value)(n:Nat):Prop:=w.ownsRow base 3 1 v n (replicate n m)
theorem qm.ag{w x:World}{base:Nat}{m v:Value}{n:Nat}(h:qm w base m v n)(a:∀g,v.ownBlock=some g->x.heap[g]? =w.heap[g]?):qm x base m v n:=aA h a
theorem qm.fresh{w:World}{base:Nat}{m:Value}(o:Obj){u:Value}{a:Nat}(h:qm w base m u a):qm (w.drew.alloc o) base m u a:=World.ownsRow.alloc (World.ownsRow.drew h) o
theorem uV(w:World)(base:Nat)(ty:TypeId){i:TypeInfo}{z:Value}(H:Tryz.prog.info? 3=some i)(R:i.zero=some z)(a:i.size=1)(s:i.bytes=8)(S:z.cells.size=1){m:Value}(O:m.oneCell'=true)(v:Value)(n:Nat)(f:qm w base m v n)(q:Addr)(k c:Nat)(hk:0<k)(x:∀j,j<k->w.cell? (q.add j)=some m)(Z:n+k<=1000000)(r:base<=w.heap.size):
  ∃v' w',(Builtin.append_ #[42,42] ty #[v,.slice (some q) k c]).run prog w=.ok v' w'/\qm w' base m v' (n+k)/\w.grownBy w' v.ownBlock/\(v'.ownBlock=v.ownBlock\/v'.ownBlock=some w.heap.size)/\∀u T,qm w base m u T->qm w' base m u T:=by
 have I:(replicate k m).length=k*1:=by simp
 have b:∀j u,(replicate k m)[j]? =some u->w.cell? (q.add j)=some u:=λj u d=>by
  rw[List.getElem?_replicate]at d;split at d
  ·next h=>cases d;exact x j h
  ·cases d
 have U:∀u∈replicate k m,u.oneCell'=true:=λu d=>by rw[List.eq_of_mem_replicate d];exact O
 have N:n+k<=maxLen:=by unfold maxLen;omega
 obtain⟨v',w',J,V,X,_,Y⟩:=run_append_own_at (P:=prog) w base 42 ty 3 i z 1 8 Tryz.underlying42 H R a s S (by omega) v n (replicate n m) f q k c (replicate k m) I b U N (by omega) r;rw[List.replicate_append_replicate]at V;refine⟨v',w',J,V,X,Y,λu T d=> ?_⟩;rcases f.2 with⟨rfl,rfl⟩|⟨g,cap,C,rfl,a0,M,a2,a1,L,l⟩
 ·have p:=run_append_nil (P:=prog) w 42 ty 3 i z Tryz.underlying42 H R q k c (replicate k m) (by rw[a];exact I) b hk (by omega) (by rw[s];omega);rw[J]at p;injection p with _ hw
  rw[hw];exact d.fresh _
 ·by_cases A:n+k<=cap
  ·have p:=run_append_room (P:=prog) w 42 ty 3 i Tryz.underlying42 H g n cap C M q k c (replicate k m) (by rw[a];exact I) b U A (by rw[a,length_replicate];omega);rw[J]at p;injection p with _ hw
   rw[a,mul_one,length_replicate]at hw;rw[hw];rw[mul_one]at l L;rcases d.2 with⟨rfl,rfl⟩|⟨D,o,e,rfl,E,t,G,F,Q,B⟩
   ·exact⟨d.1,.inl ⟨rfl,rfl⟩⟩
   ·by_cases W:D=g
    ·subst W;have K:e=C:=by rw[M]at t;cases t;rfl
     subst K;refine⟨d.1,.inr ⟨D,o,_,rfl,E,setRow_heap w D e _ _ _ M,G,F, ?_, ?_⟩⟩
     ·simp only[List.size_toArray,List.length_append,List.length_take,List.length_drop,Array.length_toList,length_replicate];omega
     ·rw[mul_one]at B ⊢;exact Qd (by rw[Array.length_toList];omega) l B
    ·exact⟨d.1,.inr ⟨D,o,e,rfl,E,(setRow_other w g D _ W).trans t,G,F,Q,B⟩⟩
  ·have y:∀j u,(replicate n m)[j]? =some u->w.cell? ((⟨g,0,none⟩:Addr).add j)=some u:=World.ownsRow.cells f (g:=g) rfl;have p:=run_append_grow (P:=prog) w 42 ty 3 i z Tryz.underlying42 H R ⟨g,0,none⟩ n cap (replicate n m) (by rw[a];simp) y q k c (replicate k m) (by rw[a];exact I) b (by omega) (by omega) (growslice_fits (by omega) (by rw[s];omega));rw[J]at p;injection p with _ hw
   rw[hw];exact d.fresh _
theorem iG(w:World){g:Array Oper}{rest:List Oper}{o:Oper}{a:Act}{Q:Exit->Act->World->Prop}(r:o.guard=none)(s x:Operand)
  (I:o.op=.call {callee:=.builtin .append,args:= #[s,x],argTypes:= #[42,42]})
  (base:Nat) {i:TypeInfo} {z:Value} (G:Tryz.prog.info? 3=some i) (N:i.zero=some z) (e:i.size=1) (q:i.bytes=8) (y:z.cells.size=1) {m:Value} (t:m.oneCell'=true) (v:Value) (n:Nat) (L:a.eval s=v) (f:qm w base m v n) (l:Addr) (k c:Nat) (M:a.eval x=.slice (some l) k c) (H:0<k) (d:∀j,j<k->w.cell? (l.add j)=some m) (p:n+k<=1000000) (b:base<=w.heap.size)
  (h:∀v' w',qm w' base m v' (n+k)->w.grownBy w' v.ownBlock->(v'.ownBlock=v.ownBlock\/v'.ownBlock=some w.heap.size)->(∀u A,qm w base m u A->qm w' base m u A)->wpList prog g Q rest (a.put o.dst v') w'):wpList prog g Q (o::rest) a w:=by
 refine wpList_plain r λK F=> ?_;obtain⟨v',w',J,B,C,D,E⟩:=uV w base o.type G N e q y t v n f l k c H d p b;unfold Oper.wp execOp;simp only[I,resolve,invoke,builtin,Sem.run_bind,Sem.run_pure,Result.andThen_ok,List.map_toArray,List.map_cons,List.map_nil,L,M,J];exact F _ _ (h v' w' B C D E)
abbrev We(i:Nat):Value:=.int .i64 (-1000- (i:Int))
def QA(w:World)(base i:Nat)(v:Value):Prop:=∃n,n<=2000/\qm w base (We i) v n
theorem QA.all{w:World}{base i:Nat}{v:Value}(h:QA w base i v):Ns w v (-1000- (i:Int)):=by
 obtain⟨n,e,h⟩:=h;have b:=h;rcases h.2 with⟨rfl,rfl⟩|⟨g,cap,a,rfl,_,d,_⟩
 ·exact⟨none,0,0,rfl,by omega,.inl rfl⟩
 ·refine⟨_,n,cap,rfl,by omega,.inr ⟨g,0,rfl,ai d,λi c=> ?_⟩⟩;have:=World.ownsRow.cellAt b i (by omega);rw[Nat.zero_add,this,List.getElem?_replicate,if_pos c]
structure ym(w:World)(base i:Nat)(e:TE):Prop where
 num:e.2.2.2.2=i
 all:∀u∈Nr e,QA w base i u
structure nM(w:World)(wb:Nat)(g0 g1 g2:Value)(es:List TE):Prop where
 row:∃to' tn tc,w.heap[wb]? =some (.cells #[g0,g1,g2,.slice none 0 0,.slice none 0 0,.slice none 0 0,.slice to' tn tc,.slice none 0 0] 40 (0,0))/\w.ownsRow (wb+1) 85 5 (.slice to' tn tc) es.length (ji es)
 each:∀(i:Nat) (e:TE),es[i]? =some e->ym w (wb+1) i e
theorem ym.move{w x:World}{base i:Nat}{e:TE}(h:ym w base i e)(d:∀u∈Nr e,∀g,u.ownBlock=some g->x.heap[g]? =w.heap[g]?):ym x base i e:=
 ⟨h.num,λu a=>by obtain⟨n,b,c⟩:=h.all u a;exact⟨n,b,c.ag (d u a)⟩⟩
theorem ym.lt{w:World}{base i:Nat}{e:TE}(h:ym w base i e){u:Value}(f:u∈Nr e){g:Nat}(b:u.ownBlock=some g):base<=g/\g<w.heap.size/\∃a,w.heap[g]? =some (.cells a 3 (0,0)):=by
 obtain⟨n,_,c⟩:=h.all u f;refine⟨(World.ownsRow.lt c g b).1,(World.ownsRow.lt c g b).2, ?_⟩;rcases c.2 with⟨rfl,_⟩|⟨j,cap,a,rfl,_,d,_⟩
 ·cases b
 ·cases b;exact⟨a,d⟩
theorem nM.ag{w x:World}{wb:Nat}{d g1 f:Value}{c:List TE}(h:nM w wb d g1 f c)(hb:Below w.heap.size w x):nM x wb d g1 f c:=by
 obtain⟨b,o,n,j,k⟩:=h.row;exact⟨⟨b,o,n,(hb.block wb (ai j)).trans j,aA k λg a=>hb.block g (k.lt g a).2⟩,λi e l=>(h.each i e l).move λu m g a=>hb.block g ((h.each i e l).lt m a).2.1⟩
theorem xG(w:World)(wb:Nat)(g0 g1 g2:Value)(f:List TE)(h:nM w wb g0 g1 g2 f)(a5:f.length<=16000000):Calls prog 9 #[.pointer (some ⟨wb,3,none⟩)] w λe w'=>e=.returned (.bool true)/\Below w.heap.size w w':=by
 obtain⟨F,tn,tc,d,l⟩:=h.row;have D:=ai d;have y3:w.cell? ⟨wb,3,none⟩=some (.slice none 0 0):=(af d).trans rfl;have y4:w.cell? ⟨wb,4,none⟩=some (.slice none 0 0):=(af d).trans rfl;have y5:w.cell? ⟨wb,5,none⟩=some (.slice none 0 0):=(af d).trans rfl;have y6:w.cell? ⟨wb,6,none⟩=some (.slice F tn tc):=(af d).trans rfl;have y7:w.cell? ⟨wb,7,none⟩=some (.slice none 0 0):=(af d).trans rfl;have r:tn=f.length/\(0<f.length->∃g,F=some ⟨g,0,none⟩/\g<w.heap.size):=by
  rcases l.2 with⟨e,h0⟩|⟨g,cap,P,e,_,hr,_⟩
  ·cases e;exact⟨h0.symm,λh=>by omega⟩
  ·cases e;exact⟨rfl,λ_=>⟨g,rfl,ai hr⟩⟩
 obtain⟨rfl,B⟩:=r;have HE:Hid (∀(i:Nat) (e:TE),f[i]? =some e->ym w (wb+1) i e):=h.each;have q:Hid _:=l;clear h d l;go_enter Tryz.func9,Tryz.ntmps9
 go_wp2_with fail
 go_loopw [3,4] (λo m wx=>o=.bool true/\m=.int .i64 0/\wx=w) (λ_ _ _=>0)
 case atStart=>exact⟨rfl,rfl,rfl⟩
 case round=>
  obtain⟨rfl,rfl,W⟩:=hrel
  cases W
  go_wp2_with fail
  go_loopw [3,6] (λo m wx=>o=.bool true/\m=.int .i64 0/\wx=w) (λ_ _ _=>0)
  case atStart=>exact⟨rfl,rfl,rfl⟩
  case round=>
   obtain⟨rfl,rfl,X⟩:=hrel
   cases X
   go_wp2_with fail
   go_loopw [3,8] (λo m wx=>o=.bool true/\m=.int .i64 0/\wx=w) (λ_ _ _=>0)
   case atStart=>exact⟨rfl,rfl,rfl⟩
   case round=>
   obtain⟨rfl,rfl,Y⟩:=hrel
   cases Y
   go_wp2_with fail
   go_loopg [3,10] f.length (λgk o m wx=>∃i:Nat,gk=f.length- i/\i<=f.length/\o=.bool true/\m=.int .i64 i/\Below w.heap.size w wx)
   case atStart=>exact⟨0,rfl,zero_le _,rfl,rfl,refl _ _⟩
   case round=>
    obtain⟨i,R,hi,rfl,rfl,v⟩:=hrel;subst R;have hs:=v.size;have x6:=(v.cell (p:=⟨wb,6,none⟩) D).trans y6;have x7:=(v.cell (p:=⟨wb,7,none⟩) D).trans y7;have a7:wb<wr.heap.size:=by omega
    clear y3 y4 y5 y6 y7;generalize Z:wr=wo at*;clear Z;by_cases U:i<f.length
    ·obtain⟨g,rfl,S⟩:=B (by omega);obtain⟨⟨v0,v1,v2,v3,k⟩,Q⟩:∃e,f[i]? =some e:=⟨_,List.getElem?_eq_getElem U⟩;have G:=HE.out i _ Q;have T:k=i:=G.num;subst T;have x:∀j,j<5->wo.cell? ⟨g,k*5+j,none⟩=(Uv (v0,v1,v2,v3,k))[j]? :=λj hj=>((v.cell (p:=⟨g,_,none⟩) S).trans (World.ownsRow.cellAt q.out _ (by omega))).trans (xy f k _ j Q hj);have q0:=x 0 (by omega);have q1:=x 1 (by omega);have q2:=x 2 (by omega);have q3:=x 3 (by omega);have q4:=x 4 (by omega);simp only[Uv,Nat.add_zero,List.getElem?_cons_zero,List.getElem?_cons_succ]at q0 q1 q2 q3 q4;have a6:g<wo.heap.size:=by omega
     have z:∀u∈ [v0,v1,v2,v3],∀y:World,Below w.heap.size w y->Calls prog 18 #[u,.int .i64 (k:Int)] y λe w'=>e=.returned (.bool true)/\Below y.heap.size y w':=λu V y hy=>Ef y u k (by omega) ((G.all u V).all.ag hy);have H0:=z v0 (by simp);have H1:=z v1 (by simp);have H2:=z v2 (by simp);have H3:=z v3 (by simp);have A:∀u∈ [v0,v1,v2,v3],∃a b c,u=.slice a b c:=λu V=>by
      obtain⟨n,_,h2⟩:=G.all u V;rcases h2.2 with⟨rfl,_⟩|⟨g',cap,P,rfl,_,hr,_⟩<;>exact⟨_,_,_,rfl⟩
     obtain⟨p0,n0,L,rfl⟩:=A v0 (by simp);obtain⟨p1,n1,M,rfl⟩:=A v1 (by simp);obtain⟨p2,n2,N,rfl⟩:=A v2 (by simp);obtain⟨p3,n3,O,rfl⟩:=A v3 (by simp);clear x z G Q A;have kb:=heap_alloc_new wo (.cells #[.slice p0 n0 L,.slice p1 n1 M,.slice p2 n2 N,.slice p3 n3 O,.int .i64 (k:Int)] 85);have B0:=(ae wo (.cells #[.slice p0 n0 L,.slice p1 n1 M,.slice p2 n2 N,.slice p3 n3 O,.int .i64 (k:Int)] 85));have H:Below w.heap.size w (wo.alloc (.cells #[.slice p0 n0 L,.slice p1 n1 M,.slice p2 n2 N,.slice p3 n3 O,.int .i64 (k:Int)] 85)):=v.trans (B0.mono hs);obtain⟨z0,z1,z2,z3,z4⟩:=pF kb;have lb:=ai kb
     go_wp2_with(first
      |(go_at_call 18;refine(H0 _ H).mono ?_;clear H0;rintro e w2 ⟨rfl,hb2⟩;have s:=lV hb2 kb;have I:=H.trans (hb2.mono H.size);obtain⟨a0,a1,a2,a3,a4⟩:=pF s;have a8:=ai s)
      |(go_at_call 18;refine(H1 _ I).mono ?_;clear H1;rintro e w3 ⟨rfl,hb3⟩;have t:=lV hb3 s;have J:=I.trans (hb3.mono I.size);obtain⟨d0,d1,d2,d3,d4⟩:=pF t;have a9:=ai t)
      |(go_at_call 18;refine(H2 _ J).mono ?_;clear H2;rintro e w4 ⟨rfl,hb4⟩;have E:=lV hb4 t;have K:=J.trans (hb4.mono J.size);obtain⟨e0,e1,e2,e3,e4⟩:=pF E;have b0:=ai E)
      |(go_at_call 18;refine(H3 _ K).mono ?_;clear H3;rintro e w5 ⟨rfl,hb5⟩;have B5:=K.trans (hb5.mono K.size)))
     go_roundg (f.length- (k+1))
     case measure=>omega
     case rel=>exact⟨k+1,rfl,by omega,rfl,by go_num,B5⟩
    ·clear HE q B
     go_wp2_with fail
     go_loopw [3,12] (λo m wx=>o=.bool true/\m=.int .i64 0/\wx=wo) (λ_ _ _=>0)
     case atStart=>exact⟨rfl,rfl,rfl⟩
     case round=>
      obtain⟨rfl,rfl,C⟩:=hrel
      cases C
      go_wp2_with fail
      go_ret;exact⟨rfl,v⟩
structure Am(w2:World)(wb n0:Nat)(m l v1 v2 v3:Value)(k0 k1 k2 k3:Nat)(wx:World):Prop where
 box:wx.heap[w2.heap.size]? =some (.cells #[l,v1,v2,v3,.int .i64 (n0:Int)] 85 (0,0))
 wl:wb<w2.heap.size
 ll:∀g,l.ownBlock=some g->g<w2.heap.size
 m0:qm wx (wb+1) m l k0
 m1:qm wx (wb+1) m v1 k1
 m2:qm wx (wb+1) m v2 k2
 m3:qm wx (wb+1) m v3 k3
 low:Below (wb+1) w2 wx
 mV:∀g,g<w2.heap.size->l.ownBlock≠some g->wx.heap[g]? =w2.heap[g]?
 s1:∀g,v1.ownBlock=some g->l.ownBlock=some g\/w2.heap.size<g
 s2:∀g,v2.ownBlock=some g->l.ownBlock=some g\/w2.heap.size<g
 s3:∀g,v3.ownBlock=some g->l.ownBlock=some g\/w2.heap.size<g
section
variable {w2 : World} {wb n0 : Nat} {m l v1 v2 v3 : Value} {k0 k1 k2 k3 : Nat} {wx y w3 : World}
theorem Am.size(h:Am w2 wb n0 m l v1 v2 v3 k0 k1 k2 k3 wx):w2.heap.size<wx.heap.size:=ai h.box
theorem Am.ag(h:Am w2 wb n0 m l v1 v2 v3 k0 k1 k2 k3 wx)(hb:Below wx.heap.size wx y):Am w2 wb n0 m l v1 v2 v3 k0 k1 k2 k3 y:=by
 have e:=h.size;have a:∀ {v:Value} {k:Nat},qm wx (wb+1) m v k->qm y (wb+1) m v k:=λc=>c.ag λg b=>hb.block g (World.ownsRow.lt c g b).2;exact⟨(hb.block _ e).trans h.box,h.wl,h.ll,a h.m0,a h.m1,a h.m2,a h.m3,h.low.trans (hb.mono (by have:=h.wl;omega)),λg b d=>(hb.block g (by omega)).trans (h.mV g b d),h.s1,h.s2,h.s3⟩
theorem Am.VM(h:Am w2 wb n0 m l v1 v2 v3 k0 k1 k2 k3 y){v:Value}{k:Nat}(p:qm y (wb+1) m v k)(a:∀g,v.ownBlock=some g->l.ownBlock=some g\/w2.heap.size<g)(c:y.grownBy w3 v.ownBlock)(b:∀u i,qm y (wb+1) m u i->qm w3 (wb+1) m u i):Am w2 wb n0 m l v1 v2 v3 k0 k1 k2 k3 w3:=by
 have o:=h.size;have r:=h.wl;have d:v.ownBlock≠some w2.heap.size:=λe=>by
  rcases a _ e with h'|h'
  ·have:=h.ll _ h';omega
  ·omega
 refine⟨(c.block _ o (λe=>d e.symm)).trans h.box,r,h.ll,b _ _ h.m0,b _ _ h.m1,b _ _ h.m2,b _ _ h.m3,h.low.grown c (by omega) (λq n=>(World.ownsRow.lt p q n).1),λg j f=>(c.block g (by omega) (λe=> ?_)).trans (h.mV g j f),h.s1,h.s2,h.s3⟩;rcases a g e.symm with h'|h'
 ·exact f h'
 ·omega
theorem Am.far(h:Am w2 wb n0 m l v1 v2 v3 k0 k1 k2 k3 y){v v':Value}(c:∀g,v.ownBlock=some g->l.ownBlock=some g\/w2.heap.size<g)(a:v'.ownBlock=v.ownBlock\/v'.ownBlock=some y.heap.size):∀g,v'.ownBlock=some g->l.ownBlock=some g\/w2.heap.size<g:=λg b=>by
 rcases a with e|e
 ·exact c g (by rw[<-e];exact b)
 ·rw[e]at b;cases b;exact .inr h.size
theorem Am.off(h:Am w2 wb n0 m l v1 v2 v3 k0 k1 k2 k3 wx){v:Value}(a:∀g,v.ownBlock=some g->l.ownBlock=some g\/w2.heap.size<g):∀g,v.ownBlock=some g->g≠w2.heap.size:=λg b e=>by
 rcases a g b with h'|h'
 ·have:=h.ll _ h';omega
 ·omega
theorem Am.set(h:Am w2 wb n0 m l v1 v2 v3 k0 k1 k2 k3 wx)(j:Nat)(v:Value){c d e:Value}{q r s:Nat}(a:(wx.setCell ⟨w2.heap.size,j,none⟩ v).heap[w2.heap.size]? =some (.cells #[l,c,d,e,.int .i64 (n0:Int)] 85 (0,0)))
  (f:qm wx (wb+1) m c q) (i:qm wx (wb+1) m d r) (t:qm wx (wb+1) m e s) (s1:∀g,c.ownBlock=some g->l.ownBlock=some g\/w2.heap.size<g) (s2:∀g,d.ownBlock=some g->l.ownBlock=some g\/w2.heap.size<g) (s3:∀g,e.ownBlock=some g->l.ownBlock=some g\/w2.heap.size<g):Am w2 wb n0 m l c d e k0 q r s (wx.setCell ⟨w2.heap.size,j,none⟩ v):=by
 have w:=h.wl;have b:∀ {v':Value} {k:Nat},qm wx (wb+1) m v' k->(∀g,v'.ownBlock=some g->g≠w2.heap.size)->qm (wx.setCell ⟨w2.heap.size,j,none⟩ v) (wb+1) m v' k:=λu o=>u.ag λg n=>heap_setCell _ _ _ _ (o g n);exact⟨a,w,h.ll,b h.m0 (h.off λg n=>.inl n),b f (h.off s1),b i (h.off s2),b t (h.off s3),h.low.setCell (p:=⟨w2.heap.size,j,none⟩) (by show wb+1<=w2.heap.size;omega) _,λg f i=>(heap_setCell _ _ _ _ (by show g≠w2.heap.size;omega)).trans (h.mV g f i),s1,s2,s3⟩
end
theorem Tw:(Tryz.prog.info? 85).map (λi=>(i.zero,i.size,i.bytes))=some (some (.agg #[.slice none 0 0,.slice none 0 0,.slice none 0 0,.slice none 0 0,.int .i64 0]),5,104):=by kernel_rfl
def Sm(w:World)(wb:Nat)(g0 g1 g2:Value)(es:List TE)(l:Value)(w':World):Prop:=∃e':TE,nM w' wb g0 g1 g2 (es++ [e'])/\(∀u∈Nr e',∀g,u.ownBlock=some g->l.ownBlock=some g\/w.heap.size<=g)/\Below wb w w'/\∀(q:Nat) (cur:Array Value) (T:TypeId) (fz:Nat × Nat),w.heap[q]? =some (.cells cur T fz)->T≠85->T≠40->l.ownBlock≠some q->w'.heap[q]? =w.heap[q]?
theorem Ku(w:World)(z:Int){B:Nat}(a:B=w.heap.size):∀j,j<1->(w.alloc (.cells #[.int .i64 z] 3)).cell? ((⟨B,0,none⟩:Addr).add j)=some (.int .i64 z):=λj b=>by
 subst a
 match j,b with
 |0,_=>exact news_of_block (heap_alloc_new w _) 0 _ rfl
theorem Ro(w:World)(z:Int){B:Nat}(a:B=w.heap.size):∀j,j<2->(w.alloc (.cells #[.int .i64 z,.int .i64 z] 3)).cell? ((⟨B,0,none⟩:Addr).add j)=some (.int .i64 z):=λj b=>by
 subst a
 match j,b with
 |0,_=>exact news_of_block (heap_alloc_new w _) 0 _ rfl
 |1,_=>exact news_of_block (heap_alloc_new w _) 1 _ rfl
theorem qm.sl{w:World}{base:Nat}{m v:Value}{n:Nat}(h:qm w base m v n):∃a cap,v=.slice a n cap:=by
 rcases h.2 with⟨rfl,rfl⟩|⟨g,cap,b,rfl,_⟩<;>exact⟨_,_,rfl⟩
theorem Cr(z:Int):(int .i64 z).oneCell'=true:=rfl
theorem qm.typed{w x:World}{base:Nat}{m v:Value}{n:Nat}(h:qm w base m v n)(d:∀(q:Nat) (a:Array Value) (T:TypeId) (c:Nat × Nat),w.heap[q]? =some (.cells a T c)->T≠85->T≠40->x.heap[q]? =w.heap[q]?):qm x base m v n:=h.ag λg b=>by
 rcases h.2 with⟨rfl,_⟩|⟨f,cap,a,rfl,_,e,_⟩
 ·cases b
 ·cases b;exact d _ _ _ _ e (by decide) (by decide)
theorem Md{w wo t w10 W1:World}{wb n n0 g7 cap7:Nat}{E g1 F:Value}{j:List TE}{l v1 v2 v3:Value}{k0 k1 k2 k3:Nat}{z:Int}(hn:n<=1900)(H:k0<=n)(I:k1<=n)(J:k2<=n)(K:k3<=n)(A:j.length=n0)(hs:z= -1000- (n0:Int))(X:nM w wb E g1 F j)
  (HL:∀g,l.ownBlock=some g->wb<g/\g<w.heap.size/\∃a,w.heap[g]? =some (.cells a 3 (0,0))) (Y:∀g,g<w.heap.size->l.ownBlock≠some g->wo.heap[g]? =w.heap[g]?) (a0:w.heap.size<=wo.heap.size) (x:Below (wb+1) w wo) (y:∀e∈j,∀u∈Nr e,∀g,u.ownBlock=some g->l.ownBlock≠some g)
  (b:Am wo wb n0 (.int .i64 z) l v1 v2 v3 k0 k1 k2 k3 t) {s:Option Addr} {M:Nat} (hO:t.heap[wb]? =some (.cells #[E,g1,F,.slice none 0 0,.slice none 0 0,.slice none 0 0,.slice s n0 M,.slice none 0 0] 40 (0,0))) (own:t.ownsRow (wb+1) 85 5 (.slice s n0 M) n0 (ji j))
  (hW:Below t.heap.size t W1) (p:W1.grownBy w10 (slice s n0 M).ownBlock) (r:w10.ownsRow (wb+1) 85 5 (.slice (some ⟨g7,0,none⟩) (n0+1) cap7) (n0+1) (ji j++ [l,v1,v2,v3,.int .i64 (n0:Int)])):
  Sm w wb E g1 F j l (w10.setCell ⟨wb,6,none⟩ (.slice (some ⟨g7,0,none⟩) (n0+1) cap7)):=by
 obtain⟨A0,U,V,W,N⟩:=xX (k:=6) (B:=wb) hO own hW p r (.slice (some ⟨g7,0,none⟩) (n0+1) cap7) (Nat.le_refl _);have C:∀ {u:Value} {k:Nat},qm t (wb+1) (.int .i64 z) u k->k<=n->QA (w10.setCell ⟨wb,6,none⟩ (.slice (some ⟨g7,0,none⟩) (n0+1) cap7)) (wb+1) n0 u:=fun {u k} h hk=>⟨k,by omega,by show qm _ _ (.int .i64 (-1000- (n0:Int))) _ _;rw[<-hs];exact h.typed N⟩;have d:∀(q:Nat) (a:Array Value) (T:TypeId) (D:Nat × Nat),w.heap[q]? =some (.cells a T D)->T≠85->T≠40->l.ownBlock≠some q->(w10.setCell ⟨wb,6,none⟩ (.slice (some ⟨g7,0,none⟩) (n0+1) cap7)).heap[q]? =w.heap[q]? :=λq a T D R Z h2 Q=>by
  have L:=ai R;have O:=Y q L Q;have P:=b.mV q (by omega) Q;exact(N q a T D ((P.trans O).trans R) Z h2).trans (P.trans O)
 refine⟨(l,v1,v2,v3,n0),⟨⟨_,_,_,U, ?_⟩,λi e c=> ?_⟩,λu f g o=> ?_,((x.mono (by omega)).trans (b.low.mono (by omega))).trans W,d⟩
 ·rw[GL,List.length_append,A];exact V
 ·rcases Nat.lt_or_ge i j.length with h|h
  ·rw[List.getElem?_append_left h]at c;have S:=X.each i e c;refine S.move λu f g o=> ?_;obtain⟨_,_,a,hr⟩:=S.lt f o;exact d g a _ _ hr (by decide) (by decide) (y e (List.mem_of_getElem? c) u f g o)
  ·rw[List.getElem?_append_right h]at c;have G:i=n0:=by
    rcases Nat.eq_or_lt_of_le h with h'|h'
    ·omega
    ·rw[List.getElem?_eq_none (by simp;omega)]at c;cases c
   subst G;rw[A,sub_self]at c
   cases c;refine⟨rfl,λu f=> ?_⟩;simp only[Nr,mem_cons,not_mem_nil,or_false]at f;rcases f with rfl|rfl|rfl|rfl
   ·exact C b.m0 H
   ·exact C b.m1 I
   ·exact C b.m2 J
   ·exact C b.m3 K
 ·simp only[Nr,mem_cons,not_mem_nil,or_false]at f;have m:∀ {v:Value},(∀g,v.ownBlock=some g->l.ownBlock=some g\/wo.heap.size<g)->v.ownBlock=some g->l.ownBlock=some g\/w.heap.size<=g:=λh e=>(h g e).imp id (by omega);rcases f with rfl|rfl|rfl|rfl
  ·exact .inl o
  ·exact m b.s1 o
  ·exact m b.s2 o
  ·exact m b.s3 o
theorem uF(w:World)(wb:Nat)(g0 g1 g2:Value)(y:List TE)(h:nM w wb g0 g1 g2 y)(h2:y.length<=4000000)(lo:Option Addr)(nn j:Nat)(ns:List Int)(hl:w.ownsRow (wb+1) 3 1 (.slice lo nn j) ns.length (aL ns))(h4:ns.length<=1000)
  (Q:∀e∈y,∀u∈Nr e,∀g,u.ownBlock=some g->(slice lo nn j).ownBlock≠some g):
  Calls prog 38 #[.pointer (some ⟨wb,3,none⟩),.slice lo nn j] w λe w'=>e=.returned (.tuple #[])/\Sm w wb g0 g1 g2 y (.slice lo nn j) w':=by
 obtain⟨s,tn,tc,I,D⟩:=h.row;have c1:=ai I;have y5:w.cell? ⟨wb,6,none⟩=some (.slice s tn tc):=(af I).trans rfl;have e5:tn=y.length:=by
  rcases D.2 with⟨e,h0⟩|⟨g,cap,b,e,_,hr,_⟩
  ·cases e;exact h0.symm
  ·cases e;rfl
 subst e5;have e3:nn=ns.length:=by
  rcases hl.2 with⟨e,h0⟩|⟨g,cap,b,e,_,hr,_⟩
  ·cases e;exact h0.symm
  ·cases e;rfl
 subst e3;have HH:Hid _:=h;obtain⟨i0,Z,a5,a6,a7⟩:=info_parts qK;obtain⟨i1,hj,c9,e0,e1⟩:=info_parts Tw;clear h;go_enter Tryz.func38,Tryz.ntmps38
 go_wp2_with fail
 have B:Below w.heap.size w w:=refl _ _;have b7:=hl;have e4:=B.size;generalize c3:(-1000- (y.length:Int))=z at*;have HS:Hid _:=c3.symm;clear c3;go_loopg [6] ns.length (λgk iv wr=>∃i:Nat,gk=ns.length- i/\i<=ns.length/\iv=.int .i64 i/\wr.ownsRow (wb+1) 3 1 (.slice lo ns.length j) ns.length (replicate i (.int .i64 z)++(aL ns).drop i)/\(∀g,(slice lo ns.length j).ownBlock≠some g->wr.heap[g]? =w.heap[g]?)/\Below (wb+1) w wr/\wr.heap.size=w.heap.size)
 case atStart=>exact⟨0,rfl,zero_le _,rfl,by simpa using b7,λ_ _=>rfl,refl _ _,rfl⟩
 case round=>
  obtain⟨i,Y,hi,rfl,f,X,C,a3⟩:=hrel;subst Y;by_cases a0:i<ns.length
  ·obtain⟨g,cap,e,c6,h3⟩:=f.form (by omega)
   cases e;have c0:=f.cellAt i (by omega);have c7:(replicate i (int .i64 z)++(aL ns).drop i)[i]? =some (.int .i64 ns[i]):=by
    rw[List.getElem?_append_right (by simp),length_replicate,sub_self,List.getElem?_drop,Nat.add_zero,aL,List.getElem?_map,List.getElem?_eq_getElem a0];rfl
   rw[c7]at c0;have f0:=f.frozenAt i;have E:=f.stored i (.int .i64 z);have b9:(replicate i (int .i64 z)++(aL ns).drop i).set i (.int .i64 z)=replicate (i+1) (.int .i64 z)++(aL ns).drop (i+1):=by
    rw[List.set_append_right _ _ (by simp),length_replicate,sub_self,List.drop_eq_getElem_cons (show i<(aL ns).length by simp[aL];exact a0),List.set_cons_zero,List.replicate_succ',List.append_assoc];rfl
   go_wp2_with fail
   go_roundg (ns.length- (i+1))
   case measure=>omega
   case rel=>
    refine⟨i+1,rfl,by omega,by go_num, ?_,λq hq=> ?_,C.setCell (p:=⟨g,i,none⟩) c6 _,by simpa using a3⟩
    ·have:=E.1;rw[b9]at this;exact this
    ·rw[heap_setCell _ _ _ _ (by intro e;exact hq (by rw[show q=g from e];rfl))];exact X q hq
  ·have c8:i=ns.length:=by omega
   subst c8;rw[List.drop_of_length_le (by simp[aL]),List.append_nil]at f;generalize e7:wr=wo at*;clear e7;have c2:wo.heap.size=w.heap.size:=a3;have a1:∀g,(slice lo ns.length j).ownBlock=some g->wb<g/\g<w.heap.size/\∃b,w.heap[g]? =some (.cells b 3 (0,0)):=λg a=>by
    refine⟨(hl.lt g a).1,(hl.lt g a).2, ?_⟩;rcases hl.2 with⟨e,_⟩|⟨g',cap,b,e,_,hr,_⟩
    ·rw[e]at a;cases a
    ·rw[e]at a;cases a;exact⟨b,hr⟩
   have hK:∀g,g<w.heap.size->(slice lo ns.length j).ownBlock≠some g->wo.heap[g]? =w.heap[g]? :=λg a e2=>(X g e2).trans (B.block g a);have O:Below (wb+1) w wo:=(B.mono (by omega)).trans C;have S0:Am wo wb y.length (.int .i64 z) (.slice lo ns.length j) (.slice none 0 0) (.slice none 0 0) (.slice none 0 0) ns.length 0 0 0 (wo.alloc (.cells #[.slice lo ns.length j,.slice none 0 0,.slice none 0 0,.slice none 0 0,.int .i64 (y.length:Int)] 85)):=
    ⟨heap_alloc_new wo _,by omega,λg a=>by have:=a1 g a;omega,World.ownsRow.alloc f _,ownsRow_nil _ _ _ _,ownsRow_nil _ _ _ _,ownsRow_nil _ _ _ _,(refl _ _).alloc (by omega) _,λg a _=>heap_alloc _ _ _ a,λg a=>(by cases a),λg a=>(by cases a),λg a=>(by cases a)⟩
   have R:w.heap.size<=wo.heap.size:=by omega
   have c5:wb+1<=wo.heap.size:=by omega
   have HL:Hid (∀g,(slice lo ns.length j).ownBlock=some g->wb<g/\g<w.heap.size/\∃b,w.heap[g]? =some (.cells b 3 (0,0))):=a1;have HK:Hid (∀g,g<w.heap.size->(slice lo ns.length j).ownBlock≠some g->wo.heap[g]? =w.heap[g]?):=hK;have a9:Hid _:=O;have M:Hid _:=D;have G:Hid _:=I;have b0:Hid _:=Q;clear a1 hK O D I Q hl b7 f X C B y5 c1 a3 e4 c2;generalize b8:ns.length=n at*;generalize b6:y.length=n0 at*;go_upto_region 7 with fail
   go_cut [32] (λg3 wx=>Am wo wb n0 (.int .i64 z) (.slice lo n j) g3 (.slice none 0 0) (.slice none 0 0) n (n+1) 0 0 wx)
   case first=>
    have l:=S0.ag (ae _ (.cells #[.int .i64 z] 3))
    go_wp2_with(at_builtin;refine iG _ rfl (.tmp 29) (.tmp 31) rfl (wb+1) Z a5 a6 a7 rfl (Cr z) (.slice lo n j) n rfl l.m0 ⟨wo.heap.size+1,0,none⟩ 1 1 rfl (by decide) (Ku _ z (by simp)) (by omega) (by simp;omega) ?_;intro v' w3 P c A d;have k:=l.VM l.m0 (λg a=>.inl a) c d;have hF:=l.far (v:=.slice lo n j) (v':=v') (λg a=>.inl a) A;obtain⟨b3,N,rfl⟩:=P.sl;have m:=k.box;have lb:=ai m;obtain⟨z0,z1,z2,z3,z4⟩:=pF m;have zf:w3.frozen? ⟨wo.heap.size,1,none⟩=false:=by simp[frozen?,m])
    go_meet;exact k.set 1 _ (by simp[setCell,Array.getElem?_modify,m]) P k.m2 k.m3 hF k.s2 k.s3
   case rest=>
    generalize e8:wc=wx at*;clear e8 S0;have hA:=hcut;clear hcut;have h1:=hA.size;obtain⟨V,U,rfl⟩:=hA.m1.sl;go_upto_region 8 with fail
    go_cut [38] (λg4 wy=>Am wo wb n0 (.int .i64 z) (.slice lo n j) (.slice V (n+1) U) g4 (.slice none 0 0) n (n+1) (n+2) 0 wy)
    case first=>
     have l:=hA.ag (ae _ (.cells #[.int .i64 z,.int .i64 z] 3))
     go_wp2_with(at_builtin;refine iG _ rfl (.tmp 34) (.tmp 37) rfl (wb+1) Z a5 a6 a7 rfl (Cr z) (.slice lo n j) n rfl l.m0 ⟨wx.heap.size,0,none⟩ 2 2 rfl (by decide) (Ro _ z rfl) (by omega) (by simp;omega) ?_;intro v' w3 P c A d;have k:=l.VM l.m0 (λg a=>.inl a) c d;have hF:=l.far (v:=.slice lo n j) (v':=v') (λg a=>.inl a) A;obtain⟨b3,N,rfl⟩:=P.sl;have m:=k.box;have lb:=ai m;obtain⟨z0,z1,z2,z3,z4⟩:=pF m;have zf:w3.frozen? ⟨wo.heap.size,2,none⟩=false:=by simp[frozen?,m])
     go_meet;exact k.set 2 _ (by simp[setCell,Array.getElem?_modify,m]) k.m1 P k.m3 k.s1 hF k.s3
    case rest=>
     generalize e9:wc=wy at*;clear e9 hA;have F:=hcut;clear hcut;have B:=F.size;obtain⟨b4,b1,rfl⟩:=F.m2.sl;have m:=F.box;obtain⟨z0,z1,z2,z3,z4⟩:=pF m;have zf:wy.frozen? ⟨wo.heap.size,3,none⟩=false:=by simp[frozen?,m]
     have hC:=F.set 3 (.slice lo n j) (by simp[setCell,Array.getElem?_modify,m]) F.m1 F.m2 F.m0 F.s1 F.s2 (λg a=>.inl a);clear F m
     go_wp2_with fail
     go_loopg [8] 64 (λgk iv wr=>∃(i:Nat) (v3:Value),gk=64- i/\i<=64/\iv=.int .i64 i/\Am wo wb n0 (.int .i64 z) (.slice lo n j) (.slice V (n+1) U) (.slice b4 (n+2) b1) v3 n (n+1) (n+2) (n+i) wr)
     case atStart=>exact⟨0,_,rfl,by omega,rfl,hC⟩
     case round=>
      clear hC z0 z1 z2 z3 z4 zf;obtain⟨i,v3,Y,hi,rfl,W⟩:=hrel;subst Y;generalize a4:wr=wq at*;clear a4;have hq:=W.size;obtain⟨b5,b2,rfl⟩:=W.m3.sl;have m:=W.box;obtain⟨z0,z1,z2,z3,z4⟩:=pF m;by_cases a0:i<64
      ·have l:=W.ag (ae _ (.cells #[.int .i64 z] 3))
       go_wp2_with(at_builtin;refine iG _ rfl (.tmp 47) (.tmp 49) rfl (wb+1) Z a5 a6 a7 rfl (Cr z) (.slice b5 (n+i) b2) (n+i) rfl l.m3 ⟨wq.heap.size,0,none⟩ 1 1 rfl (by decide) (Ku _ z rfl) (by omega) (by simp;omega) ?_;intro v' w3 P c A d;have k:=l.VM l.m3 l.s3 c d;have hF:=l.far (v':=v') l.s3 A;obtain⟨b3,N,rfl⟩:=P.sl;have J:=k.box;have lb:=ai J;obtain⟨x0,x1,x2,x3,x4⟩:=pF J;have zf:w3.frozen? ⟨wo.heap.size,3,none⟩=false:=by simp[frozen?,J])
       go_roundg (64- (i+1))
       case measure=>omega
       case rel=>exact⟨i+1,_,rfl,by omega,by go_num,k.set 3 _ (by simp[setCell,Array.getElem?_modify,J]) k.m1 k.m2 P k.s1 k.s2 hF⟩
      ·obtain rfl:i=64:=by omega
       have c1:wb<w.heap.size:=ai G.out;have a8:∀(g:Nat) (b:Array Value) (T:TypeId) (H:Nat × Nat),w.heap[g]? =some (.cells b T H)->T≠3->(slice lo n j).ownBlock≠some g:=λg b T H a hT e=>by
        obtain⟨_,_,g5,hr⟩:=HL.out g e;rw[hr]at a;cases a;exact hT rfl
       have E:∀(g:Nat) (b:Array Value) (T:TypeId) (H:Nat × Nat),w.heap[g]? =some (.cells b T H)->T≠3->wq.heap[g]? =w.heap[g]? :=λg b T H a hT=>
        (W.mV g (Nat.lt_of_lt_of_le (ai a) R) (a8 g b T H a hT)).trans (HK.out g (ai a) (a8 g b T H a hT))
       have hO:=(E _ _ _ _ G.out (by decide)).trans G.out;have own:=gN M.out λq b H hq=>E q b _ H hq (by decide);have x5:wq.cell? ⟨wb,6,none⟩=some (.slice s n0 tc):=(af hO).trans rfl;have a4:=ai hO;have c4:Hid _:=hO;have S:∀o:Obj,(wq.alloc o).drew.ownsRow (wb+1) 85 5 (.slice s n0 tc) n0 (ji y):=λo=>World.ownsRow.drew (World.ownsRow.alloc own o);have e6:(slice s n0 tc).ownBlock≠some wb:=λe=>by have:=(own.lt _ e).1;omega
       have K:=fun {t:World} {g7 x:Nat} (L:Obj)=>Md (w10:=t) (g7:=g7) (cap7:=x) (n:=n+64) (W1:=(wq.alloc L).drew) (by omega) (by omega) (by omega) (by omega) (by omega) b6 HS.out HH.out HL.out HK.out R a9.out b0.out W hO own (ae wq L).drew;have HF:Hid _:= @K;clear K hO own E a8 G M W;go_upto_region 14 with fail
       go_region_law (refine step_append_lies _ rfl (.tmp 56) (.tmp 58) 35 rfl (wb+1) 85 i1 _ 5 104 Tryz.underlying35 hj c9 e0 e1 rfl (by decide) (.slice s n0 tc) n0 (ji y) (by simp[Act.eval]) (S _) ⟨wq.heap.size,0,none⟩ 1 1 [.slice lo n j,.slice V (n+1) U,.slice b4 (n+2) b1,.slice b5 (n+64) b2,.int .i64 (n0:Int)] (by simp[Act.eval]) rfl (news_of_block (NR wq _)) (by intro u hu;simp only[mem_cons,not_mem_nil,or_false]at hu;rcases hu with rfl|rfl|rfl|rfl|rfl<;>rfl) (by decide) (by unfold maxLen;omega) (by omega) (by simp;omega) (wq.heap.size+1) (by simp) ?_;intro g7 x t a2 r g6 g9;have kB:t.heap[wb]? =_:=(r.block wb (by simp;omega) e6.symm).trans ((heap_alloc _ _ _ a4).trans c4.out);have g8:=ai kB;have r0:t.cell? ⟨wb,6,none⟩=some (.slice s n0 tc):=(af kB).trans rfl;have h5:t.frozen? ⟨wb,6,none⟩=false:=by simp[frozen?,kB])
       all_goals(go_wp2_with fail)
       all_goals
        go_end0
        exact⟨rfl,by rw[b8];exact HF.out _ r a2⟩
end Go.Proofs.YtdifpeaklamhnaaGreatDoor
