import Derived.Test.YtdifpeaklamhnaaGreatDoorRtGZ
set_option linter.unusedVariables false
set_option linter.unusedSimpArgs false
set_option maxRecDepth 100000
set_option maxHeartbeats 0
namespace Go.Proofs.YtdifpeaklamhnaaGreatDoor
open Go.Proofs.Tryz
open Go.RowKit
open List (mem_append_left mem_of_getElem? length_append getElem?_eq_getElem length_take getElem?_map mem_map any_cons any_nil all_cons)
open Below (heap_alloc refl)
open Nat (zero_le zero_add mul_comm)
open World (size_alloc)
open Value (string)
mutual
theorem FU{y:Tr} :∀ {t T:Tr},T∈post t->y∈bX T.ops->y∈post t
 | .mk k tx br ops,T,hT,hy=>by
  rw[post]at hT ⊢;rcases List.mem_append.mp hT with h|h
  ·exact mem_append_left _ (Bc h hy)
  ·rw[List.mem_singleton.mp h]at hy;exact mem_append_left _ hy
theorem Bc{y:Tr} :∀ {a:List Tr} {T:Tr},T∈bX a->y∈bX T.ops->y∈bX a
 | [],T,hT,hy=>by simp[bX]at hT
 |t::a,T,hT,hy=>by
  rw[bX]at hT ⊢;rcases List.mem_append.mp hT with h|h
  ·exact mem_append_left _ (FU h hy)
  ·exact List.mem_append_right _ (Bc h hy)
end
theorem mF(t:Tr):0<(post t).length:=List.length_pos_of_mem (mem_of_getElem? (dF t))
theorem Bb:∀a:List Tr,a.length<=(bX a).length
 | []=>Nat.le_refl _
 |t::a=>by
  rw[bX,length_append,List.length_cons];have:=mF t;have:=Bb a;omega
mutual
theorem nG:∀ {t T:Tr},T∈post t->T.ops.length<=(post t).length
 | .mk k tx br ops,T,hT=>by
  rw[post]at hT ⊢;rw[length_append];rcases List.mem_append.mp hT with h|h
  ·have:=uK h;omega
  ·rw[List.mem_singleton.mp h];have:=Bb ops;show ops.length<=_;omega
theorem uK:∀ {a:List Tr} {T:Tr},T∈bX a->T.ops.length<=(bX a).length
 | [],T,hT=>by simp[bX]at hT
 |t::a,T,hT=>by
  rw[bX]at hT ⊢;rw[length_append];rcases List.mem_append.mp hT with h|h
  ·have:=nG h;omega
  ·have:=uK h;omega
end
def UO(atoi:Bs->Int)(ps:Sc)(fns:List Fn)(t:Tr)(w:World)(g cap:Nat)(e:Ending)(w':World):Prop:=w.grownBy w' (some g)/\
 ((∃n:Int,bg atoi ps fns t=.error n/\n≠0/\e=.returned (.int .i64 n))\/
  (∃(x:Ex) (cs:List Value),bg atoi ps fns t=.ok x/\e=.returned (.int .i64 0)/\w'.ownsRow 0 183 4 (.slice (some ⟨g,0,none⟩) (post t).length cap) (post t).length cs/\iR w' (λ_=>True) cs 0 (post t) (lm atoi ps fns (post t) (post t).length)))
def NH(atoi:Bs->Int)(ps:Sc)(fns:List Fn)(l:List Tr)(W:World)(g cap:Nat)(i:Nat)(wr:World):Prop:=∃cs:List Value,
 i<=l.length/\W.grownBy wr (some g)/\wr.ownsRow 0 183 4 (.slice (some ⟨g,0,none⟩) l.length cap) l.length cs/\iR wr (λ_=>True) cs 0 l (lm atoi ps fns l i)/\(∀j,j<i->∀t,l[j]? =some t->∃x,bg atoi ps fns t=.ok x)
theorem CY(d:Bs->Int)(w0 w:World)(co:Option Addr)(cn cc:Nat)(I:Option Addr)(tn tc:Nat)(args:Bs)(fo:Option Addr)(D fc:Nat)(ps:Sc)(a:List RF)(h:nN w0 co cn cc I tn tc (.slice fo D fc) ps.1 a)(h9:args.length<=maxLen)(hK:nZ ps args a)
  (b3:Below w0.heap.size w0 w) (g cap:Nat) (hg:w0.heap.size<=g) (t:Tr) (cs:List Value) (L:w.ownsRow 0 183 4 (.slice (some ⟨g,0,none⟩) (post t).length cap) (post t).length cs) (hN:iR w (λ_=>True) cs 0 (post t) (λ_=>0)) (g3:∀y∈post t,y.tx.length<=maxLen) (hm:(post t).length<=1000):
  Calls prog 192 #[.agg #[.slice co cn cc,.slice I tn tc,.string (aa args),.slice fo D fc],.agg #[.slice (some ⟨g,0,none⟩) (post t).length cap]] w λe w'=>UO d ps (RF.list a) t w g cap e w':=by
 obtain⟨W,hW⟩:∃W,W=(w.alloc (.cells #[.slice co cn cc,.slice I tn tc,.string (aa args),.slice fo D fc] 214)).alloc (.cells #[.slice (some ⟨g,0,none⟩) (post t).length cap] 102):=⟨_,rfl⟩;have K:(w.alloc (.cells #[.slice co cn cc,.slice I tn tc,.string (aa args),.slice fo D fc] 214)).alloc (.cells #[.slice (some ⟨g,0,none⟩) (post t).length cap] 102)=W:=hW.symm;have F:Below w.heap.size w W:=by rw[hW];exact az w _ _
 have q7:W.heap[w.heap.size]? =some (.cells #[.slice co cn cc,.slice I tn tc,.string (aa args),.slice fo D fc] 214 (0,0)):=by rw[hW,heap_alloc _ _ _ (by simp[size_alloc])];exact heap_alloc_new w _
 have k9:W.heap[w.heap.size+1]? =some (.cells #[.slice (some ⟨g,0,none⟩) (post t).length cap] 102 (0,0)):=by
  rw[hW];have:=heap_alloc_new (w.alloc (.cells #[.slice co cn cc,.slice I tn tc,.string (aa args),.slice fo D fc] 214)) (.cells #[.slice (some ⟨g,0,none⟩) (post t).length cap] 102);rw[size_alloc]at this;exact this
 have x5:W.heap.size=w.heap.size+2:=by rw[hW];simp[size_alloc]
 have v6:g<w.heap.size:=(L.lt g rfl).2;have H:∀y∈post t,mQ y:=by
  intro y hy;obtain⟨j,hj⟩:=List.getElem?_of_mem hy;obtain⟨_,_,_,_,_,_,_,_,_,h7,_⟩:=hN j y hj;exact h7
 obtain⟨l,hl⟩:∃l,l=post t:=⟨_,rfl⟩;have N:Hid (l=post t):=hl;rw[<-hl]at L hN g3 hm H k9 K ⊢;have I0:NH d ps (RF.list a) l W g cap 0 W:=by
  refine⟨cs,zero_le _,⟨rfl,rfl,rfl,Nat.le_refl _,λ_ _ _=>rfl⟩,aA L λq u=>F.block q (L.lt q u).2,(hN.ag F).congr (λj _=>by rw[lm,if_neg (by omega)]),λj hj=>by omega⟩
 have l9:w.grownBy W (some g):=⟨F.os,F.tape,F.output,F.size,λq u _=>F.block q u⟩;clear hW hl L hN;go_enter Tryz.func192,Tryz.ntmps192
 go_wp2_with fail
 try rw[K]
 clear K;go_loopg [5] l.length (λgk iv wr=>∃i:Nat,gk=l.length- i/\iv=.int .i64 i/\NH d ps (RF.list a) l W g cap i wr)
 case atStart=>exact⟨0,rfl,rfl,I0⟩
 case round=>
  clear I0;generalize r5:wr=wo at*;clear r5;obtain⟨i,q4,rfl,cs,hi,hG,L,hN,a6⟩:=hrel;subst q4;have o7:=(hG.block w.heap.size (by omega) (by simp;omega)).trans q7;have o5:=(hG.block (w.heap.size+1) (by omega) (by simp;omega)).trans k9;have x6:=hG.size;have k5:Below w0.heap.size w0 wo:=by
   refine⟨hG.os.trans (F.os.trans b3.os),hG.tape.trans (F.tape.trans b3.tape),hG.output.trans (F.output.trans b3.output), ?_,λq u=> ?_⟩
   ·have:=b3.size;omega
   ·have:=b3.size;rw[hG.block q (by omega) (by simp;omega),F.block q (by omega),b3.block q u]
  obtain⟨⟨k0,k1,k2,k3⟩,_⟩:=bE o7;obtain⟨e0,_⟩:=nP o5;by_cases c6:i<l.length
  ·obtain⟨T,Y⟩:∃T,T=l[i]:=⟨_,rfl⟩;have e7:l[i]? =some T:=by rw[Y];exact getElem?_eq_getElem c6
   obtain⟨v,is,n0,n1,n2,n3,n4,_,n6,n7,n8⟩:=hN i T e7;rw[zero_add]at n0 n1 n2 n3;have e5:w.heap.size<wo.heap.size:=by omega
   have o6:w.heap.size+1<wo.heap.size:=by omega
   have q0:wo.cell? ⟨g,i*4,none⟩=some (.string (aa T.tx)):=(L.cellAt (i*4) (by omega)).trans (by rw[mul_comm];exact n0);have q1:wo.cell? ⟨g,i*4+1,none⟩=some (.bool T.br):=(L.cellAt (i*4+1) (by omega)).trans (by rw[mul_comm];exact n1);have q2:wo.cell? ⟨g,i*4+2,none⟩=some v:=(L.cellAt (i*4+2) (by omega)).trans (by rw[mul_comm];exact n2);have j9:lm d ps (RF.list a) l i i=0:=by rw[lm,if_neg (by omega)]
   rw[j9]at n3;have q3:wo.cell? ⟨g,i*4+3,none⟩=some (.int .u8 0):=(L.cellAt (i*4+3) (by omega)).trans (by rw[mul_comm];exact n3);have h2:g<wo.heap.size:=by omega
   have p3:l.length<=cap:=by
    rcases L.2 with⟨h',_⟩|⟨_,_,_,h',_,_,hc,_⟩
    ·cases h'
    ·cases h';exact hc
   have e9:T∈post t:=by rw[<-N.out,Y];exact List.getElem_mem c6
   have o9:T.tx.length<=maxLen:=g3 T (by rw[N.out];exact e9);have o8:mQ T:=n7;have a7:∀n:Int,bg d ps (RF.list a) T=.error n->bg d ps (RF.list a) t=.error n:=by
    intro n hn;refine FT d ps (RF.list a) t (l.take i) T (l.drop (i+1)) n (λy hy=>H y (by rw[N.out];exact hy)) ?_ (λp hp=> ?_) hn
    ·rw[<-N.out,Y,<-List.drop_eq_getElem_cons c6,List.take_append_drop]
    ·obtain⟨j,hj⟩:=List.getElem?_of_mem hp;have m1:j<i:=by
      have:=(List.getElem?_eq_some_iff.mp hj).1;rw[length_take]at this;omega
     rw[List.getElem?_take,if_pos m1]at hj;exact a6 j m1 p hj
   have c9:∀(x:Ex) (n:Int) (V:World),bg d ps (RF.list a) T=.ok x->mO x.ty=n->Below wo.heap.size wo V->NH d ps (RF.list a) l W g cap (i+1) (V.setCell ⟨g,i*4+3,none⟩ (.int .u8 n)):=by
    intro x n V J hn S;have e6:V.ownsRow 0 183 4 (.slice (some ⟨g,0,none⟩) l.length cap) l.length cs:=aA L λq u=>S.block q (L.lt q u).2;obtain⟨c7,g2⟩:=e6.stored (i*4+3) (.int .u8 n);refine⟨_,by omega,aB (aB hG (bC S _)) g2,c7,((hN.grown λq u=>S.block q u).stored e6 c6).congr (λj _=> ?_),λj hj p hp=> ?_⟩
    ·have:=JN (atoi:=d) (ps:=ps) (fns:=RF.list a) c6 j;rw[<-this,<-Y,J];show(if j=i then n else _)=(if j=i then mO x.ty else _);rw[hn]
    ·rcases Nat.lt_or_ge j i with h|h
     ·exact a6 j h p hp
     ·have:j=i:=by omega
      subst this;rw[e7]at hp;cases hp;exact⟨x,J⟩
   have b1:∀V:World,Below wo.heap.size wo V->V.frozen? ⟨g,i*4+3,none⟩=false/\V.cell? ⟨g,i*4+3,none⟩=some (.int .u8 0)/\V.cell? ⟨w.heap.size+1,0,none⟩=some (.slice (some ⟨g,0,none⟩) l.length cap):=by
    intro V S;have e6:V.ownsRow 0 183 4 (.slice (some ⟨g,0,none⟩) l.length cap) l.length cs:=aA L λq u=>S.block q (L.lt q u).2;exact⟨e6.frozenAt _,(S.cell (p:=⟨g,_,none⟩) h2).trans q3,(S.cell (p:=⟨w.heap.size+1,0,none⟩) (by show w.heap.size+1<_;omega)).trans e0⟩
   have n5:∃ao b6 c2,v=.slice ao b6 c2:=by
    rcases n4.2 with⟨rfl,_⟩|⟨g',j6,o2,rfl,_⟩<;>exact⟨_,_,_,rfl⟩
   have e4:w.grownBy wo (some g):=aB l9 hG;have b8:nN wo co cn cc I tn tc (.slice fo D fc) ps.1 a:=h.ag k5;clear n0 n1 n2 n3 j9
   cases g0:T.br with
   |false=>
    rw[g0]at q1;obtain⟨c7,g2⟩:=AV d hK (RF.list a) o8 g0;obtain⟨ao,b6,c2,rfl⟩:=n5;have HC:=xO _ co cn cc I tn tc args fo D fc ps.1 a (b8.ag (ae wo (.cells #[.string (aa T.tx),.bool false,.slice ao b6 c2,.int .u8 0] 183))) h9 T.tx o9;obtain⟨n,hn⟩:∃n,n=mY ps.1 args T.tx:=⟨_,rfl⟩;rw[<-hn]at HC c7;have a2:Hid _:=c7;have a3:Hid _:=g2;have C:Hid _:=a7;have R:Hid _:=c9;have b2:Hid _:=e4;clear c7 g2 hn a7 c9 L hN a6 n4 n6 n7 n8 e7 Y e4 H g3 b8 k5 hG
    go_wp2_with(go_at_call 246;refine HC.mono ?_;rintro e w6 ⟨rfl,hb6⟩;have B6:=(ae wo (.cells #[.string (aa T.tx),.bool false,.slice ao b6 c2,.int .u8 0] 183)).trans (hb6.mono (by simp));obtain⟨z1,z2,z3⟩:=b1 w6 B6)
    ·have h0:n=0:=by rename_i u;simpa using u
     have G:bg d ps (RF.list a) T=.error 2:=by
      rcases a3.out with⟨x,J,i7⟩|G
      ·have e1:=a2.out;rw[J,h0]at e1;exact absurd e1 (Cx i7)
      ·exact G
     go_ret;exact⟨aB b2.out (bC B6 _),.inl ⟨2,C.out 2 G,by decide,rfl⟩⟩
    ·have h0:n≠0:=by rename_i u;simpa using u
     obtain⟨x,J⟩:∃x,bg d ps (RF.list a) T=.ok x:=by
      rcases a3.out with⟨x,J,_⟩|G
      ·exact⟨x,J⟩
      ·have e1:=a2.out;rw[G]at e1;exact absurd e1.symm h0
     have hn:mO x.ty=n:=by have e1:=a2.out;rw[J]at e1;exact e1
     go_roundg (l.length- (i+1))
     case measure=>omega
     case rel=>exact⟨i+1,rfl,by go_num,R.out x n w6 J hn B6⟩
   |true=>
    rw[g0]at q1;obtain⟨s,i1,p5,l0⟩:=MB (atoi:=d) (ps:=ps) (fns:=RF.list a) (ops:=T.ops) (λy hy=>by
     obtain⟨m,hm⟩:=List.getElem?_of_mem hy;have v8:=(List.getElem?_eq_some_iff.mp hm).1;have u:=getElem?_eq_getElem (l:=is) (i:=m) (by omega);obtain⟨q',_,i6,i3⟩:=n8 m _ u;exact a6 q' i6 y (by rw[i3,hm]))
    have c5:∀x∈s,dW x.ty:=tV d hK T.ops s (λy hy=>H y (by
     rw[N.out];exact FU e9 hy)) i1
    have e8:∃k,T=.mk k T.tx true T.ops:=⟨T.kd,by obtain⟨k,tx,br,r9⟩:=T;cases g0;rfl⟩;obtain⟨k,e8⟩:=e8;have hS:=QL d hK (k:=k) (tx:=T.tx) i1 c5;rw[<-e8]at hS;obtain⟨_,k6,k7⟩:=hS;have g8:∀(m:Nat) (hm:m<T.ops.length),∃(q:Nat),is[m]? =some q/\q<i/\wo.cell? ⟨g,q*4+3,none⟩=some (.int .u8 ((yS (s[m]'(by omega)).ty).toNat:Int)):=by
     intro m hm;have u:=getElem?_eq_getElem (l:=is) (i:=m) (by omega);obtain⟨q',m7,i6,i3⟩:=n8 m _ u;rw[zero_add]at m7;have b5:l[q']? =some T.ops[m]:=by rw[i3];exact getElem?_eq_getElem hm
     obtain⟨x,i9,r6⟩:=l0 m _ (getElem?_eq_getElem hm);obtain⟨_,_,_,_,_,c3,_⟩:=hN q' _ b5;rw[zero_add]at c3;have i7:lm d ps (RF.list a) l i q'=((yS (s[m]'(by omega)).ty).toNat:Int):=by
      have r8:s[m]'(by omega)=x:=by rw[getElem?_eq_getElem (by omega)]at i9;exact Option.some.inj i9
      rw[lm,if_pos i6,b5,r8];show SI (bg d ps (RF.list a) T.ops[m])=_;rw[r6];exact((OW (c5 x (mem_of_getElem? i9))).1).symm
     exact⟨is[m]'(by omega),u,by omega,(L.cellAt _ (by omega)).trans (by rw[m7,mul_comm,c3,i7])⟩
    obtain⟨ao,b6,c2,rfl⟩:=n5;have g4:b6=T.ops.length/\(T.ops= []\/∃b,ao=some ⟨b,0,none⟩/\b<wo.heap.size/\T.ops.length<=c2/\∀(m q:Nat),is[m]? =some q->wo.cell? ⟨b,m,none⟩=some (.int .i64 (q:Int))):=by
     rcases n4.2 with⟨h',h0⟩|⟨g',j6,o2,h',_,u1,p4,_⟩
     ·cases h';exact⟨h0.symm,.inl (List.length_eq_zero_iff.mp h0)⟩
     ·cases h';refine⟨rfl,.inr ⟨g',rfl,(n4.lt g' rfl).2,p4,λm q u=> ?_⟩⟩;have:=n4.cells (g:=g') rfl m (.int .i64 (q:Int)) (by simp[u]);rw[Addr.add_lit]at this;simpa using this
    obtain⟨rfl,g4⟩:=g4;have w3:T.ops.length<=1000:=by
     have h1:=nG e9;rw[<-N.out]at h1;omega
    have R:Hid _:=c9;have C:Hid _:=a7;have b2:Hid _:=e4;have a2:Hid _:=k6;have a3:Hid _:=k7;have j2:Hid _:=g8;have o1:Hid _:=g4;have g5:Hid (s.length=T.ops.length):=p5;clear g8 g4 k6 k7 a7 c9 L hN a6 n4 n6 n7 n8 e7 Y e4 H g3 hG i1 c5 l0 e8 e9;obtain⟨X,c1⟩:∃X,X=wo.alloc (.cells #[.string (aa T.tx),.bool true,.slice ao T.ops.length c2,.int .u8 0] 183):=⟨_,rfl⟩;have K:Hid (wo.alloc (.cells #[.string (aa T.tx),.bool true,.slice ao T.ops.length c2,.int .u8 0] 183)=X):=c1.symm;have O:Below wo.heap.size wo X:=by rw[c1];exact ae wo _
    have r7:X.heap[wo.heap.size]? =some (.cells #[.string (aa T.tx),.bool true,.slice ao T.ops.length c2,.int .u8 0] 183 (0,0)):=by rw[c1];exact heap_alloc_new wo _
    have x3:X.heap.size=wo.heap.size+1:=by rw[c1];simp[size_alloc]
    clear c1;have u0:=O.size;have A:∀x:World,Below X.heap.size X x->(x.cell? ⟨wo.heap.size,0,none⟩=some (.string (aa T.tx))/\x.cell? ⟨wo.heap.size,2,none⟩=some (.slice ao T.ops.length c2))/\(x.cell? ⟨w.heap.size,0,none⟩=some (.slice co cn cc)/\x.cell? ⟨w.heap.size,1,none⟩=some (.slice I tn tc)/\x.cell? ⟨w.heap.size,2,none⟩=some (.string (aa args))/\x.cell? ⟨w.heap.size,3,none⟩=some (.slice fo D fc))/\x.cell? ⟨w.heap.size+1,0,none⟩=some (.slice (some ⟨g,0,none⟩) l.length cap):=by
     intro x J;have n9:=(J.block wo.heap.size (by omega)).trans r7;have B:Below wo.heap.size wo x:=O.trans (J.mono O.size);exact⟨⟨(af n9).trans rfl,(af n9).trans rfl⟩,⟨(B.cell (p:=⟨w.heap.size,0,none⟩) e5).trans k0,(B.cell (p:=⟨w.heap.size,1,none⟩) e5).trans k1,(B.cell (p:=⟨w.heap.size,2,none⟩) e5).trans k2,(B.cell (p:=⟨w.heap.size,3,none⟩) e5).trans k3⟩,(B.cell (p:=⟨w.heap.size+1,0,none⟩) o6).trans e0⟩
    have Q:(aR s).length=T.ops.length:=by rw[aR,List.length_map];exact g5.out
    go_wp2_with fail
    rw[K.out];clear K;go_loopw [8,9] (λsv jv V=>∃j:Nat,j<=T.ops.length/\jv=.int .i64 j/\sv=.string (aa ((aR s).take j))/\Below X.heap.size X V) (λ_ jv _=>T.ops.length- (intOf jv).toNat)
    case atStart=>exact⟨0,zero_le _,rfl,rfl,refl _ _⟩
    case round=>
     obtain⟨j,hj,rfl,rfl,B⟩:=hrel;obtain⟨⟨x0,x2⟩,⟨y0,y1,y2,y3⟩,y4⟩:=A wr B;have x7:=B.size;by_cases M:j<T.ops.length
     ·obtain⟨b,rfl,p2,v3,c4⟩:∃b,ao=some ⟨b,0,none⟩/\b<wo.heap.size/\T.ops.length<=c2/\∀(m q:Nat),is[m]? =some q->wo.cell? ⟨b,m,none⟩=some (.int .i64 (q:Int)):=by
       rcases o1.out with h|h
       ·rw[h]at M;simp at M
       ·exact h
      obtain⟨q,u,w4,m6⟩:=j2.out j M;have g6:Below wo.heap.size wo wr:=O.trans (B.mono O.size);have a0:wr.cell? ⟨b,j,none⟩=some (.int .i64 (q:Int)):=(g6.cell (p:=⟨b,j,none⟩) p2).trans (c4 j q u);have a1:=(g6.cell (p:=⟨g,q*4+3,none⟩) h2).trans m6;have S:b<wr.heap.size:=by omega
      have v7:g<wr.heap.size:=by omega
      have u6:w.heap.size+1<wr.heap.size:=by omega
      have p0:wo.heap.size<wr.heap.size:=by omega
      have w9:q<l.length:=by omega
      have m0:j<s.length:=by have:=g5.out;omega
      obtain⟨c,hc⟩:∃c,c=yS (s[j]'m0).ty:=⟨_,rfl⟩;rw[<-hc]at a1;have j5:Hid (aa ((aR s).take j)++⟨#[c]⟩=aa ((aR s).take (j+1))):=by
       rw[Hid,List.take_succ_eq_append_getElem (by rw[Q];exact M)];have:(aR s)[j]'(by rw[Q];exact M)=c:=by rw[hc];simp[aR]
       rw[this];apply ByteArray.ext;rw[ByteArray.data_append];simp[aa]
      have r2:(aa ((aR s).take j)).size=j:=by rw[aF,length_take,Q];omega
      have k8:(convert 174 9 (.slice (some ⟨wr.heap.size,0,none⟩) 1 1)).run prog (wr.alloc (.cells #[.int .u8 (c.toNat:Int)] 5)).drew=.ok (.string ⟨#[c]⟩) (wr.alloc (.cells #[.int .u8 (c.toNat:Int)] 5)).drew:=run_convert_bytes_back (P:=prog) (wr.alloc (.cells #[.int .u8 (c.toNat:Int)] 5)).drew 174 9 5 ⟨wr.heap.size,0,none⟩ 1 [c] Tryz.underlying174 Tryz.underlying5 Tryz.underlying9 (by
       intro m hm;have q8:m=0:=by simp at hm;exact hm
       subst q8;exact(af (heap_alloc_new wr _)).trans rfl)
      have v9:¬9223372036854775807<(aa ((aR s).take j)).size+(ByteArray.mk #[c]).size:=by
       rw[r2];show¬9223372036854775807<j+1;omega
      clear c4 m6 u hc
      go_wp2_with fail
      go_region;all_goals(try go_wp2_with fail)
      go_roundw
      case rel=>exact⟨j+1,by omega,by go_num,by rw[j5.out],(B.alloc B.size _).drew⟩
      case measure=>simp[intOf];omega
     ·have m0:j=T.ops.length:=by omega
      subst m0;have m9:(aR s).take T.ops.length=aR s:=List.take_of_length_le (by omega);rw[m9];have u9:w.heap.size<wr.heap.size:=by omega
      have p0:wo.heap.size<wr.heap.size:=by omega
      have k4:Below wo.heap.size wo wr:=O.trans (B.mono O.size);obtain⟨fi,i2⟩:∃fi,fi=bB (RF.list a) T.tx:=⟨_,rfl⟩;have j3:Calls prog 67 #[.agg #[.slice co cn cc,.slice I tn tc,.string (aa args),.slice fo D fc],.string (aa T.tx)] wr λe w'=>e=.returned (.int .i64 (zJ fi))/\Below wr.heap.size wr w':=by
       rw[i2];exact fI wr _ _ _ fo D fc a (b8.ag k4).fns T.tx
      have Z:Hid _:=i2;obtain⟨op,b5⟩:∃b,b=aW gp T.tx:=⟨_,rfl⟩;obtain⟨wd,i8⟩:∃b,b=aW gy T.tx:=⟨_,rfl⟩;have j0:Hid (bM T.tx=(op||wd)):=by rw[Hid,wJ,b5,i8,nS]
      have h4:∀(x:World) (b:Nat),x.heap[b]? =some (.cells (gp.map λt=>string (aa t)).toArray 9 (0,0))->Calls prog 114 #[.slice (some ⟨b,0,none⟩) 7 7,.string (aa T.tx)] x λe w'=>e=.returned (.bool op)/\w'=x:=by
       intro x b hb;rw[b5];exact uk gp 7 rfl (by omega) x b hb T.tx
      have c8:∀(x:World) (b:Nat),x.heap[b]? =some (.cells (gy.map λt=>string (aa t)).toArray 9 (0,0))->Calls prog 114 #[.slice (some ⟨b,0,none⟩) 8 8,.string (aa T.tx)] x λe w'=>e=.returned (.bool wd)/\w'=x:=by
       intro x b hb;rw[i8];exact uk gy 8 rfl (by omega) x b hb T.tx
      have h6:=vV;have e2:=uS;obtain⟨oo,i4⟩:∃o,o=Obj.cells (gp.map λt=>string (aa t)).toArray 9:=⟨_,rfl⟩;obtain⟨ow,i5⟩:∃o,o=Obj.cells (gy.map λt=>string (aa t)).toArray 9:=⟨_,rfl⟩;rw[<-i4]at h4;rw[<-i5]at c8;simp only[<-i4]at h6;simp only[<-i5]at e2;clear i2 b5 i8 i4 i5 m9 M;go_upto_region 16 with(go_at_call 67;refine j3.mono ?_;rintro e w5 ⟨rfl,hb5⟩)
      have h8:Below X.heap.size X w5:=B.trans (hb5.mono B.size);obtain⟨⟨s2,s3⟩,⟨s4,s5,s6,s7⟩,s8⟩:=A w5 h8;have v0:wo.heap.size<w5.heap.size:=by have:=hb5.size;omega
      clear j3 x0 x2 y0 y1 y2 y3 y4;go_cut [11] (λs0 V=>s0=.bool op/\Below w5.heap.size w5 V)
      case first=>
       clear c8 e2 A b1;go_region_with(first
        |(go_at_call 179;refine(h6 _).mono ?_;rintro e w6 ⟨rfl,rfl⟩)
        |(go_at_call 114;refine(h4 _ _ ?_).mono ?_;(first|exact heap_alloc_new _ _|exact heap_alloc_new w5 oo);rintro e w7 ⟨rfl,rfl⟩))
       all_goals(go_wp2_with fail;go_meet)
       all_goals exact⟨rfl,by first|exact ae w5 oo|exact(ae w5 oo).drew⟩
      case rest=>
       obtain⟨rfl,o3⟩:=hcut;have a8:Below X.heap.size X wc:=h8.trans (o3.mono h8.size);clear s2 s3 s4 s5 s6 s7 s8 h4 h6;generalize r3:wc=w6 at*;clear r3;obtain⟨⟨x0,x2⟩,⟨y0,y1,y2,y3⟩,y4⟩:=A w6 a8;have v1:wo.heap.size<w6.heap.size:=by have:=a8.size;omega
       go_upto_region 17 with fail
       go_cut [12] (λs1 V=>s1=.bool wd/\Below w6.heap.size w6 V)
       case first=>
        clear A b1;go_region_with(first
         |(go_at_call 115;refine(e2 _).mono ?_;rintro e w7 ⟨rfl,rfl⟩)
         |(go_at_call 114;refine(c8 _ _ ?_).mono ?_;(first|exact heap_alloc_new _ _|exact heap_alloc_new w6 ow);rintro e w8 ⟨rfl,rfl⟩))
        all_goals(go_wp2_with fail;go_meet)
        all_goals exact⟨rfl,by first|exact ae w6 ow|exact(ae w6 ow).drew⟩
       case rest=>
        obtain⟨rfl,o4⟩:=hcut;have c0:Below X.heap.size X wc:=a8.trans (o4.mono a8.size);clear x0 x2 y0 y1 y2 y3 y4 c8 e2;generalize r4:wc=w7 at*;clear r4;obtain⟨⟨x0,x2⟩,⟨y0,y1,y2,y3⟩,y4⟩:=A w7 c0;have z:Below wo.heap.size wo w7:=O.trans (c0.mono O.size);obtain⟨z1,z2,_⟩:=b1 w7 z;have x4:=c0.size;have v2:wo.heap.size<w7.heap.size:=by omega
        have u7:w.heap.size<w7.heap.size:=by omega
        have u5:w.heap.size+1<w7.heap.size:=by omega
        have p9:g<w7.heap.size:=by omega
        have j4:Hid (nN w7 co cn cc I tn tc (.slice fo D fc) ps.1 a):=b8.ag z;have b7:Hid _:=b1;clear A b1 b8
        cases fi with
        |none=>
         have q6:zJ none= -1:=rfl
         cases b4:(op||wd)with
         |false=>
          rw[Bool.or_eq_false_iff]at b4;obtain⟨rfl,rfl⟩:=b4;have G:jy a T.tx (aR s)=2:=by rw[jy,<-Z.out,j0.out];rfl
          have b0:Hid (bg d ps (RF.list a) T=.error 2):=by rw[Hid,<-G];exact a3.out (by rw[G];decide)
          clear G
          go_wp2_with fail
          go_ret;exact⟨aB b2.out (bC z _),.inl ⟨2,C.out 2 b0.out,by decide,rfl⟩⟩
         |true=>
          have i0:bM T.tx=true:=by rw[j0.out];exact b4
          have h5:Calls prog 247 #[.string (aa T.tx),.string (aa (aR s))] w7 λe w'=>e=.returned (.int .u8 (vE T.tx (aR s)))/\Below w7.heap.size w7 w':=by
           have:=xP T.tx i0 (aa (aR s)) w7 (by rw[aF,Q];unfold maxLen;omega);rw[au]at this;exact this
          have Y:yC a T.tx (aR s)=vE T.tx (aR s):=by rw[yC,<-Z.out]
          have G:jy a T.tx (aR s)=if vE T.tx (aR s)=0 then 3 else 0:=by rw[jy,<-Z.out,i0,Y];rfl
          obtain⟨n,hn⟩:∃n,n=vE T.tx (aR s):=⟨_,rfl⟩;rw[<-hn]at h5 Y G;have a4:Hid _:=Y;have E:Hid _:=G;have g7:op=false->wd=true:=by intro e;rw[e]at b4;simpa using b4
          clear hn Y G i0 b4
          cases op with
          |true=>
           clear g7
           go_wp2_with(go_at_call 247;refine h5.mono ?_;rintro e w8 ⟨rfl,hb8⟩;have B8:=z.trans (hb8.mono z.size);obtain⟨z1,z2,z3⟩:=b7.out w8 B8)
           ·have h0:n=0:=by rename_i u;simpa using u
            have G:jy a T.tx (aR s)=3:=by rw[E.out,if_pos h0]
            go_ret;exact⟨aB b2.out (bC B8 _),.inl ⟨3,C.out 3 (by rw[<-G];exact a3.out (by rw[G];decide)),by decide,rfl⟩⟩
           ·have h0:n≠0:=by rename_i u;simpa using u
            obtain⟨x,J,U⟩:=a2.out (by rw[E.out,if_neg h0]);rw[a4.out]at U
            go_roundg (l.length- (i+1))
            case measure=>omega
            case rel=>exact⟨i+1,rfl,by go_num,R.out x _ _ J U B8⟩
          |false=>
           obtain rfl:=g7 rfl
           go_wp2_with(go_at_call 247;refine h5.mono ?_;rintro e w8 ⟨rfl,hb8⟩;have B8:=z.trans (hb8.mono z.size);obtain⟨z1,z2,z3⟩:=b7.out w8 B8)
           ·have h0:n=0:=by rename_i u;simpa using u
            have G:jy a T.tx (aR s)=3:=by rw[E.out,if_pos h0]
            go_ret;exact⟨aB b2.out (bC B8 _),.inl ⟨3,C.out 3 (by rw[<-G];exact a3.out (by rw[G];decide)),by decide,rfl⟩⟩
           ·have h0:n≠0:=by rename_i u;simpa using u
            obtain⟨x,J,U⟩:=a2.out (by rw[E.out,if_neg h0]);rw[a4.out]at U
            go_roundg (l.length- (i+1))
            case measure=>omega
            case rel=>exact⟨i+1,rfl,by go_num,R.out x _ _ J U B8⟩
        |some k'=>
         obtain⟨f,l5,_⟩:=jB Z.out.symm;have g1:=l5;rw[RF.list,getElem?_map]at g1;obtain⟨r,hr⟩:∃r,a[k']? =some r:=by
          cases u:a[k']? with
          |none=>rw[u]at g1;cases g1
          |some r=>exact⟨r,rfl⟩
         have m2:k'<a.length:=(List.getElem?_eq_some_iff.mp hr).1;have m8:=mem_of_getElem? hr;have p1:bM T.tx=false:=by
          obtain⟨f',p6,q9⟩:=jB Z.out.symm;have hm:=mem_of_getElem? p6;rw[RF.list,mem_map]at hm;obtain⟨r',r1,rfl⟩:=hm;rw[<-q9];exact hK.free r' r1
         have Y:yC a T.tx (aR s)=iF (aR s==r.args) (mO r.fn.body.ty):=by simp only[yC,<-Z.out,hr]
         have G:jy a T.tx (aR s)=if iF (aR s==r.args) (mO r.fn.body.ty)=0 then 3 else 0:=by rw[jy,<-Z.out,Y];rfl
         have a9:mO r.fn.body.ty≠0:=Cx (hK.UG r m8);obtain⟨u4,s9,p8,p7,l8⟩:=j4.out.fns
         cases p8;obtain⟨fb,rfl,v4,l7⟩:∃b,fo=some ⟨b,0,none⟩/\b<w7.heap.size/\∀(i:Nat) (rf:RF),a[i]? =some rf->wC w7 b i rf:=by
          rcases l8 with h'|h'
          ·rw[h']at m2;simp at m2
          ·exact h'
         obtain⟨gb,b9,u3,u2,_,f1,f2,_,_,m5,e3,j7,j8⟩:=l7 k' r hr;have r0:0<(post r.t).length:=List.length_pos_of_mem (mem_of_getElem? (dF r.t));have a5:w7.cell? ⟨gb,((post r.t).length- 1)*4+3,none⟩=some (.int .u8 (mO r.fn.body.ty)):=by
          obtain⟨_,_,_,_,_,c3,_⟩:=j7 _ _ (dF r.t);rw[zero_add,j8]at c3;exact(e3.cellAt _ (by omega)).trans (by rw[mul_comm];exact c3)
         have v5:gb<w7.heap.size:=(e3.lt gb rfl).2;have k8:(post r.t).length<=b9:=by
          rcases e3.2 with⟨h',_⟩|⟨_,_,_,h',_,_,hc,_⟩
          ·cases h'
          ·cases h';exact hc
         obtain⟨m',m3⟩:∃m',(post r.t).length=m'+1:=⟨(post r.t).length- 1,by omega⟩;rw[m3]at f2 a5 k8 m5;rw[Nat.add_sub_cancel]at a5;obtain⟨nb,m4⟩:∃n,n=mO r.fn.body.ty:=⟨_,rfl⟩;rw[<-m4]at a5 Y G a9;have a4:Hid _:=Y;have E:Hid _:=G;have w1:(aa (aR s)).toList=aR s:=au _;have w2:(aa r.args).toList=r.args:=au _;have q6:zJ (some k')=(k':Int):=rfl;have x1:a.length<=8:=p7;have j1:Hid (∀o:Obj,Below wo.heap.size wo (w7.alloc o)):=λo=>z.alloc z.size o;clear Y G m4 m3 e3 j7 j8 l7 l8 l5 g1 hr m8 p1 r0
         cases l4:(aR s==r.args)with
         |true=>
          rw[l4]at a4 E;have o0:Hid (yC a T.tx (aR s)=nb):=a4;have b0:Hid (jy a T.tx (aR s)=0):=by rw[Hid,E.out];exact if_neg a9
          have x8:(nb==0)=false:=by simpa using a9
          obtain⟨x9,y5,y6⟩:=b7.out _ (j1.out (.cells #[.slice (some ⟨gb,0,none⟩) (m'+1) b9] 102));clear a4 E a9
          go_wp2_with fail
          obtain⟨x,J,U⟩:=a2.out b0.out;rw[o0.out]at U
          go_roundg (l.length- (i+1))
          case measure=>omega
          case rel=>
           have g9:=R.out x _ _ J U (j1.out (.cells #[.slice (some ⟨gb,0,none⟩) (m'+1) b9] 102));rw[World.setCell_alloc_past _ _ _ _ p9]at g9;exact⟨i+1,rfl,by go_num,g9⟩
         |false=>
          rw[l4]at E;have b0:Hid (jy a T.tx (aR s)=3):=by rw[Hid,E.out];rfl
          clear a4 E
          go_wp2_with fail
          go_ret;exact⟨aB b2.out (bC z _),.inl ⟨3,C.out 3 (by have h3:=a3.out (by rw[b0.out];decide);rw[b0.out]at h3;exact h3),by decide,rfl⟩⟩
  ·have q5:i=l.length:=by omega
   subst q5;have hp:=dF t;rw[<-N.out]at hp;have m5:0<l.length:=List.length_pos_of_mem (mem_of_getElem? hp);obtain⟨x,J⟩:=a6 (l.length- 1) (by omega) t hp;have HF:Hid (UO d ps (RF.list a) t w g cap (.returned (.int .i64 0)) wo):=⟨aB l9 hG,.inr ⟨x,cs,J,rfl,by rw[<-N.out];exact L,by rw[<-N.out];exact hN⟩⟩;clear J hp a6 L hN
   go_wp2_with fail
   go_ret;exact HF.out
def sO(rfs:List RF)(o:Option Nat):Int:=match o with|none=>0|some i=>match rfs[i]? with|none=>0|some r=>r.fn.body.size
def Dl(rfs:List RF)(t:Tr):Int:=if t.br then sO rfs (bB (RF.list rfs) t.tx)else 0
theorem AQ{ps:Sc}{args:Bs}{a:List RF}(g:nZ ps args a){b:Bs}(h:bM b=true):bB (RF.list a) b=none:=by
 cases j:bB (RF.list a) b with
 |none=>rfl
 |some i=>
  obtain⟨f,d,e⟩:=jB j;have c:=mem_of_getElem? d;rw[RF.list,mem_map]at c;obtain⟨r,k,rfl⟩:=c;rw[<-e,g.free r k]at h;cases h
theorem GI{ps:Sc}{args:Bs}{a:List RF}(b:nZ ps args a)(t:Tr):Dl a t=II (RF.list a) t:=by
 unfold Dl II
 cases hb:t.br with
 |false=>rfl
 |true=>
  cases c:bM t.tx with
  |true=>rw[AQ b c];rfl
  |false=>
   rw[if_pos rfl];show _=(match bB (RF.list a) t.tx with|none=>(0:Int)|some i=>match(RF.list a)[i]? with|none=>0|some f=>f.body.size);unfold sO
   cases bB (RF.list a) t.tx with
   |none=>rfl
   |some i=>
    show(match a[i]? with|none=>(0:Int)|some r=>r.fn.body.size)=(match(RF.list a)[i]? with|none=>0|some f=>f.body.size);rw[RF.list,getElem?_map]
    cases a[i]? <;>rfl
theorem Qa{ps:Sc}{args:Bs}{a:List RF}(b:nZ ps args a)(t:Tr):0<=Dl a t/\Dl a t<=300:=by
 unfold Dl sO;split
 ·split
  ·omega
  ·split
   ·omega
   ·next r c=>exact b.Bn r (mem_of_getElem? c)
 ·omega
theorem RU{ps:Sc}{args:Bs}{a:List RF}(b:nZ ps args a)(l:List Tr):0<=lG (l.map (Dl a))/\lG (l.map (Dl a))<=300*l.length:=by
 induction l with
 |nil=>simp[lG]
 |cons t c ih=>
  have:=Qa b t;simp only[List.map_cons,lG,List.length_cons];omega
def pJ(rfs:List RF)(o:Option Nat):Bool:=match o with|none=>true|some i=>match rfs[i]? with|none=>true|some r=>r.fn.body.quiet
mutual
def lK(rfs:List RF):Tr->Bool
 | .mk _ tx br ops=>(!br||(!fK tx&&pJ rfs (bB (RF.list rfs) tx)))&&qj rfs ops
def qj(rfs:List RF):List Tr->Bool
 | []=>true
 |t::ts=>lK rfs t&&qj rfs ts
end
theorem ze(a:List RF)(b:List Tr):qj a b=b.all (lK a):=by
 induction b with
 |nil=>rfl
 |cons t b ih=>rw[qj,ih];rfl
theorem De(a:Bs->Int)(k:Int)(b:Bs):(cK a k b).quiet=true:=by
 unfold cK;repeat' split
 all_goals rfl
theorem Jb{a:Bs}(h:fK a=true):bM a=true:=by
 simp only[fK,any_cons,any_nil,Bool.or_eq_true,beq_iff_eq,Bool.or_false]at h;rcases h with rfl|rfl|rfl|rfl|rfl|rfl<;>decide
mutual
theorem zb(d:Bs->Int){ps:Sc}{args:Bs}{c:List RF}(o:nZ ps args c):∀(t:Tr) (x:Ex),(∀y∈post t,mQ y)->bg d ps (RF.list c) t=.ok x->x.quiet=lK c t
 | .mk k tx false ops,x,hL,b=>by
  have m:=(hL (.mk k tx false ops) (by rw[post];simp) rfl).1;rw[show(Tr.mk k tx false ops).ops=ops from rfl]at m;subst m;rw[bg,if_neg Bool.false_ne_true]at b;have u:x.quiet=true:=by
   split at b
   ·unfold qH at b;split at b
    ·cases b
    ·split at b
     ·cases b
     ·cases b;rfl
   ·split at b
    ·unfold uN at b;split at b
     ·cases b
     ·cases b;rfl
    ·cases b;exact De _ _ _
  rw[u];simp[lK,qj]
 | .mk k tx true ops,x,hL,b=>by
  rw[bg,if_pos rfl]at b
  cases g:bY d ps (RF.list c) ops with
  |error n=>rw[g]at b;cases b
  |ok l=>
   rw[g]at b;have w:=Bd d o ops l (λy v=>hL y (by rw[post];exact mem_append_left _ v)) g;have a:nR (RF.list c) tx l=.ok x:=b;unfold nR at a;rw[lK,<-w]
   cases hb:bM tx with
   |true=>
    rw[hb,if_pos rfl]at a;split at a
    ·cases a
    ·cases a;rw[AQ o hb];simp[Ex.quiet,pJ,Bool.and_comm]
   |false=>
    have h:fK tx=false:=by
     cases s:fK tx with
     |false=>rfl
     |true=>rw[Jb s]at hb;cases hb
    rw[hb,if_neg Bool.false_ne_true]at a;unfold lY at a;split at a
    ·cases a
    ·next i q=>
     split at a
     ·cases a
     ·next f p=>
      have e:=p;rw[RF.list,getElem?_map]at e;split at a
      ·cases a
       cases j:c[i]? with
       |none=>rw[j]at e;cases e
       |some r=>
        rw[j]at e;have:r.fn=f:=Option.some.inj e;subst this;simp[Ex.quiet,pJ,h,q,j,Bool.and_comm]
      ·cases a
theorem Bd(a:Bs->Int){ps:Sc}{args:Bs}{b:List RF}(g:nZ ps args b):∀(c:List Tr) (d:List Ex),(∀y∈bX c,mQ y)->bY a ps (RF.list b) c=.ok d->d.all Ex.quiet=qj b c
 | [],d,hL,h=>by rw[bY]at h;cases h;rfl
 |t::c,d,hL,h=>by
  rw[bX]at hL;rw[bY]at h;split at h
  ·cases h
  ·next x i=>
   split at h
   ·cases h
   ·next j e=>
    cases h;rw[qj,all_cons,zb a g t x (λy f=>hL y (mem_append_left _ f)) i,Bd a g c j (λy f=>hL y (List.mem_append_right _ f)) e]
end
structure iY(w:World)(g cap:Nat)(l:List Tr)(ty:Nat->Int)(cs:List Value):Prop where
 own:w.ownsRow 0 183 4 (.slice (some ⟨g,0,none⟩) l.length cap) l.length cs
 nodes:iR w (λ_=>True) cs 0 l ty
 small:l.length<=1000
 Ou:∀t∈l,t.ops.length<=1000
theorem iY.ag{w x:World}{g cap:Nat}{l:List Tr}{ty:Nat->Int}{cs:List Value}(h:iY w g cap l ty cs)(hb:Below w.heap.size w x):iY x g cap l ty cs:=
 ⟨aA h.own λq a=>hb.block q (h.own.lt q a).2,h.nodes.ag hb,h.small,h.Ou⟩
theorem iY.lt{w:World}{g cap:Nat}{l:List Tr}{ty:Nat->Int}{cs:List Value}(h:iY w g cap l ty cs):g<w.heap.size:=(h.own.lt g rfl).2
theorem iY.cap{w:World}{g cap:Nat}{l:List Tr}{ty:Nat->Int}{cs:List Value}(h:iY w g cap l ty cs):l.length<=cap:=by
 rcases h.own.2 with⟨a,_⟩|⟨_,_,_,a,_,_,b,_⟩
 ·cases a
 ·cases a;exact b
theorem iY.at{w:World}{g cap:Nat}{l:List Tr}{ty:Nat->Int}{cs:List Value}(h:iY w g cap l ty cs){i:Nat}{t:Tr}(s:l[i]? =some t):∃(k:Option Addr) (n:Nat) (is:List Nat),
  w.cell? ⟨g,i*4,none⟩=some (.string (aa t.tx))/\w.cell? ⟨g,i*4+1,none⟩=some (.bool t.br)/\w.cell? ⟨g,i*4+2,none⟩=some (.slice k t.ops.length n)/\w.cell? ⟨g,i*4+3,none⟩=some (.int .u8 (ty i))/\
  is.length=t.ops.length/\(∀(m q:Nat),is[m]? =some q->q<i/\l[q]? =t.ops[m]?)/\(t.ops= []\/∃b,k=some ⟨b,0,none⟩/\b<w.heap.size/\t.ops.length<=n/\∀(m q:Nat),is[m]? =some q->w.cell? ⟨b,m,none⟩=some (.int .i64 (q:Int))):=by
 have I:=(List.getElem?_eq_some_iff.mp s).1;obtain⟨v,is,u,x,y,z,j,_,A,K,J⟩:=h.nodes i t s;rw[zero_add]at u x y z;have B:w.cell? ⟨g,i*4,none⟩=some (.string (aa t.tx)):=(h.own.cellAt (i*4) (by omega)).trans (by rw[mul_comm];exact u);have C:w.cell? ⟨g,i*4+1,none⟩=some (.bool t.br):=(h.own.cellAt (i*4+1) (by omega)).trans (by rw[mul_comm];exact x);have D:w.cell? ⟨g,i*4+2,none⟩=some v:=(h.own.cellAt (i*4+2) (by omega)).trans (by rw[mul_comm];exact y);have E:w.cell? ⟨g,i*4+3,none⟩=some (.int .u8 (ty i)):=(h.own.cellAt (i*4+3) (by omega)).trans (by rw[mul_comm];exact z);have a:∀(m q:Nat),is[m]? =some q->q<i/\l[q]? =t.ops[m]? :=by
  intro m q f;obtain⟨L,e,G,H⟩:=J m q f;rw[zero_add]at e;subst e;exact⟨G,H⟩
 rcases j.2 with⟨rfl,p⟩|⟨c,o,F,rfl,_,r,d,_⟩
 ·exact⟨none,0,is,B,C,by rw[p];exact D,E,A,a,.inl (List.length_eq_zero_iff.mp p)⟩
 ·refine⟨_,_,is,B,C,D,E,A,a,.inr ⟨c,rfl,(j.lt c rfl).2,d,λm q f=> ?_⟩⟩;have:=j.cells (g:=c) rfl m (.int .i64 (q:Int)) (by simp[f]);rw[Addr.add_lit]at this;simpa using this
theorem xg(w:World)(co:Option Addr)(cn cc:Nat)(j:Option Addr)(E D:Nat)(args:Bs)(k:Option Addr)(c y:Nat)(ps:Sc)(a:List RF)(h:nN w co cn cc j E D (.slice k c y) ps.1 a)(hK:nZ ps args a)
  (g cap:Nat) (l:List Tr) (ty:Nat->Int) (cs:List Value) (K:iY w g cap l ty cs):
  Calls prog 118 #[.agg #[.slice co cn cc,.slice j E D,.string (aa args),.slice k c y],.agg #[.slice (some ⟨g,0,none⟩) l.length cap]] w λe w'=>e=.returned (.int .i64 ((l.length:Int)+lG (l.map (Dl a))))/\Below w.heap.size w w':=by
 obtain⟨W,H⟩:∃W,W=(w.alloc (.cells #[.slice co cn cc,.slice j E D,.string (aa args),.slice k c y] 214)).alloc (.cells #[.slice (some ⟨g,0,none⟩) l.length cap] 102):=⟨_,rfl⟩;have v:Hid ((w.alloc (.cells #[.slice co cn cc,.slice j E D,.string (aa args),.slice k c y] 214)).alloc (.cells #[.slice (some ⟨g,0,none⟩) l.length cap] 102)=W):=H.symm;have o:Below w.heap.size w W:=by rw[H];exact az w _ _
 have a6:W.heap[w.heap.size]? =some (.cells #[.slice co cn cc,.slice j E D,.string (aa args),.slice k c y] 214 (0,0)):=by rw[H,heap_alloc _ _ _ (by simp[size_alloc])];exact heap_alloc_new w _
 have a1:W.heap[w.heap.size+1]? =some (.cells #[.slice (some ⟨g,0,none⟩) l.length cap] 102 (0,0)):=by
  rw[H];have:=heap_alloc_new (w.alloc (.cells #[.slice co cn cc,.slice j E D,.string (aa args),.slice k c y] 214)) (.cells #[.slice (some ⟨g,0,none⟩) l.length cap] 102);rw[size_alloc]at this;exact this
 have c5:W.heap.size=w.heap.size+2:=by rw[H];simp[size_alloc]
 have c3:=K.lt;have b2:=K.cap;have c6:=K.small;have a0:=K.ag o;have X:=h.ag o;have U:=RU hK;clear H K h;go_enter Tryz.func118,Tryz.ntmps118
 go_wp2_with fail
 rw[v.out];clear v;go_loopg [5,6] l.length (λgk nv iv wr=>∃i:Nat,gk=l.length- i/\i<=l.length/\iv=.int .i64 i/\nv=.int .i64 ((l.length:Int)+lG ((l.take i).map (Dl a)))/\Below W.heap.size W wr)
 case atStart=>exact⟨0,rfl,zero_le _,rfl,by simp[lG],refl _ _⟩
 case round=>
  obtain⟨i,a3,hi,rfl,rfl,m⟩:=hrel;subst a3;generalize a7:wr=wo at*;clear a7;have hs:=m.size;have Y:=(m.block w.heap.size (by omega)).trans a6;have V:=(m.block (w.heap.size+1) (by omega)).trans a1;obtain⟨⟨k0,k1,k2,k3⟩,_⟩:=bE Y;obtain⟨e0,_⟩:=nP V;by_cases P:i<l.length
  ·obtain⟨T,hT⟩:∃T,T=l[i]:=⟨_,rfl⟩;have L:l[i]? =some T:=by rw[hT];exact getElem?_eq_getElem P
   obtain⟨ao,c2,is,q0,q1,_,_,_⟩:=(a0.ag m).at L;have c4:g<wo.heap.size:=by omega
   have I:Hid (lG ((l.take (i+1)).map (Dl a))=lG ((l.take i).map (Dl a))+Dl a T):=by
    rw[Hid,List.take_succ_eq_append_getElem P,List.map_append,zy,<-hT];simp[lG]
   have q:=U (l.take i);have d:=Qa hK T;rw[length_take]at q;obtain⟨n,hn⟩:∃n,n=lG ((l.take i).map (Dl a)):=⟨_,rfl⟩;rw[<-hn]at I q ⊢;have Z:w.heap.size<wo.heap.size:=by omega
   have b9:w.heap.size+1<wo.heap.size:=by omega
   have b4:n<=300000:=by omega
   have b3:0<=n:=q.1;have J:=X.ag m;clear hT L hn U q
   cases s:T.br with
   |false=>
    rw[s]at q1;have F:Hid (Dl a T=0):=by rw[Hid,Dl,s];rfl
    clear d
    go_wp2_with fail
    go_roundg (l.length- (i+1))
    case measure=>omega
    case rel=>exact⟨i+1,rfl,by omega,by go_num,by rw[I.out,F.out];simp,m⟩
   |true=>
    rw[s]at q1;obtain⟨G,u⟩:∃G,G=bB (RF.list a) T.tx:=⟨_,rfl⟩;have B:Dl a T=sO a G:=by rw[Dl,s,u];rfl
    have S:∀x:World,Below wo.heap.size wo x->Calls prog 67 #[.agg #[.slice co cn cc,.slice j E D,.string (aa args),.slice k c y],.string (aa T.tx)] x λe w'=>e=.returned (.int .i64 (zJ G))/\Below wo.heap.size wo w':=by
     intro x hx;rw[u];exact(fI x _ _ _ k c y a (J.ag hx).fns T.tx).mono λe w' h=>⟨h.1,hx.trans (h.2.mono hx.size)⟩
    have R:Hid _:=u;rw[B]at I d;have b6:Hid _:=B;clear u B;go_upto_region 7 with fail
    go_cut [7] (λs7 wx=>s7=.int .i64 (zJ G)/\Below wo.heap.size wo wx)
    case first=>
     go_region_with(go_at_call 67;refine(S _ ?_).mono ?_;(first|exact refl _ wo|exact(refl _ wo).drew);rintro e w3 ⟨rfl,hb3⟩);all_goals(go_wp2_with fail;go_meet)
     all_goals exact⟨rfl,by first|exact hb3|exact hb3.drew⟩
    case rest=>
     obtain⟨rfl,A⟩:=hcut;have z:Below W.heap.size W wc:=m.trans (A.mono m.size)
     cases G with
     |none=>
      have a5:zJ none= -1:=rfl;have F:Hid (sO a none=0):=rfl;clear d
      go_wp2_with fail
      go_roundg (l.length- (i+1))
      case measure=>omega
      case rel=>exact⟨i+1,rfl,by omega,by go_num,by rw[I.out,F.out];simp,z⟩
     |some C=>
      have a5:zJ (some C)=(C:Int):=rfl;obtain⟨f,t,_⟩:=jB R.out.symm;rw[RF.list,getElem?_map]at t;obtain⟨r,Q⟩:∃r,a[C]? =some r:=by
       cases hq:a[C]? with
       |none=>rw[hq]at t;cases t
       |some r=>exact⟨r,rfl⟩
      have O:C<a.length:=(List.getElem?_eq_some_iff.mp Q).1;have F:Hid (sO a (some C)=r.fn.body.size):=by rw[Hid,sO,Q]
      obtain⟨b8,a9,a2,c0,N⟩:=(J.ag A).fns
      cases a2;obtain⟨fb,rfl,c1,M⟩:∃b,k=some ⟨b,0,none⟩/\b<wc.heap.size/\∀(i:Nat) (rf:RF),a[i]? =some rf->wC wc b i rf:=by
       rcases N with h'|h'
       ·rw[h']at O;simp at O
       ·exact h'
      obtain⟨gb,a8,b7,b5,_,_,_,f3,_⟩:=M C r Q;rw[F.out]at d;have c7:=(A.cell (p:=⟨w.heap.size,3,none⟩) Z).trans k3;have b0:0<=r.fn.body.size:=d.1;have b1:r.fn.body.size<=300:=d.2;clear M N t Q d
      go_wp2_with fail
      go_roundg (l.length- (i+1))
      case measure=>omega
      case rel=>exact⟨i+1,rfl,by omega,by go_num,by rw[I.out,F.out,Int.add_assoc],z⟩
  ·have a4:l.take i=l:=List.take_of_length_le (by omega);rw[a4];have BF:Below w.heap.size w wo:=o.trans (m.mono o.size);clear U
   go_wp2_with fail
   go_ret;exact⟨rfl,BF⟩
def kZ:List Bs:=[[43],[45],[42],[47],[99,97,116],[110,111,116,101]]
theorem vK{w:World}{g cap:Nat}{l:List Tr}{ty:Nat->Int}{cs:List Value}(h:iY w g cap l ty cs){i:Nat}{t:Tr}(a:l[i]? =some t):t.ops.length<=1000:=h.Ou t (mem_of_getElem? a)
theorem yR(l:Bs):aW kZ l=fK l:=by
 unfold aW kZ fK;simp only[List.contains_cons,List.contains_nil,Bool.or_false,any_cons,any_nil]
def BD(N:Nat):Prop:=∀(t:Tr) (w:World) (co:Option Addr) (cn cc:Nat) (to':Option Addr) (tn tc:Nat) (args:Bs) (fo:Option Addr) (fnn fc:Nat) (ps:Sc) (rfs:List RF) (g cap:Nat) (l:List Tr) (ty:Nat->Int) (cs:List Value) (i:Nat),SizeOf.sizeOf t<=N->
 nN w co cn cc to' tn tc (.slice fo fnn fc) ps.1 rfs->nZ ps args rfs->iY w g cap l ty cs->l[i]? =some t->
 Calls prog 119 #[.agg #[.slice co cn cc,.slice to' tn tc,.string (aa args),.slice fo fnn fc],.agg #[.slice (some ⟨g,0,none⟩) l.length cap],.int .i64 i] w λe w'=>e=.returned (.bool (lK rfs t))/\Below w.heap.size w w'
theorem RA(N:Nat)(hN:BD N)(T:Tr)(w:World)(co:Option Addr)(cn cc:Nat)(r:Option Addr)(H G:Nat)(args:Bs)(B:Option Addr)(n A:Nat)(ps:Sc)(a:List RF)(g cap:Nat)(l:List Tr)(ty:Nat->Int)(cs:List Value)(i:Nat)(a1:∀y∈T.ops,SizeOf.sizeOf y<=N)
  (S:nN w co cn cc r H G (.slice B n A) ps.1 a) (hK:nZ ps args a) (s:iY w g cap l ty cs) (hi:l[i]? =some T) (V:T.br=false):
  Calls prog 119 #[.agg #[.slice co cn cc,.slice r H G,.string (aa args),.slice B n A],.agg #[.slice (some ⟨g,0,none⟩) l.length cap],.int .i64 i] w λe w'=>e=.returned (.bool (lK a T))/\Below w.heap.size w w':=by
 obtain⟨O,P,is,q0,q1,q2,q3,C,D,a2⟩:=s.at hi;rw[V]at q1;have c3:=(List.getElem?_eq_some_iff.mp hi).1;have c1:=s.lt;have b5:=s.cap;have c7:=s.small;have M:Hid (lK a T=qj a T.ops):=by
  obtain⟨k,tx,br,c8⟩:=T;have:br=false:=V;subst this;rw[Hid,lK];rfl
 have c4:T.ops.length<=1000:=by
  have h1:=vK s hi;omega
 have a6:Hid _:=a2;have f:Hid _:=C;have L:Hid _:=D;have a4:Hid _:=S;have a5:Hid _:=s;obtain⟨W,U⟩:∃W,W=((w.alloc (.cells #[.slice co cn cc,.slice r H G,.string (aa args),.slice B n A] 214)).alloc (.cells #[.slice (some ⟨g,0,none⟩) l.length cap] 102)).alloc (.cells #[.string (aa T.tx),.bool false,.slice O T.ops.length P,.int .u8 (ty i)] 183):=⟨_,rfl⟩;have z:Hid (((w.alloc (.cells #[.slice co cn cc,.slice r H G,.string (aa args),.slice B n A] 214)).alloc (.cells #[.slice (some ⟨g,0,none⟩) l.length cap] 102)).alloc (.cells #[.string (aa T.tx),.bool false,.slice O T.ops.length P,.int .u8 (ty i)] 183)=W):=U.symm;have c:Below w.heap.size w W:=by rw[U];exact jo w _ _ _
 have Q:=fP (w:=w) (o:=(.cells #[.slice co cn cc,.slice r H G,.string (aa args),.slice B n A] 214)) (o':=(.cells #[.slice (some ⟨g,0,none⟩) l.length cap] 102)) (o2:=(.cells #[.string (aa T.tx),.bool false,.slice O T.ops.length P,.int .u8 (ty i)] 183)) (refl _ _);rw[<-U]at Q;have c5:W.heap.size=w.heap.size+3:=by rw[U];simp[size_alloc]
 have I:∀x:World,Below W.heap.size W x->(x.cell? ⟨w.heap.size+2,0,none⟩=some (.string (aa T.tx))/\x.cell? ⟨w.heap.size+2,2,none⟩=some (.slice O T.ops.length P))/\(x.cell? ⟨w.heap.size,0,none⟩=some (.slice co cn cc)/\x.cell? ⟨w.heap.size,1,none⟩=some (.slice r H G)/\x.cell? ⟨w.heap.size,2,none⟩=some (.string (aa args))/\x.cell? ⟨w.heap.size,3,none⟩=some (.slice B n A))/\x.cell? ⟨w.heap.size+1,0,none⟩=some (.slice (some ⟨g,0,none⟩) l.length cap):=by
  intro x K;have b0:=(K.block w.heap.size (by omega)).trans Q.1;have b1:=(K.block (w.heap.size+1) (by omega)).trans Q.2.1;have b2:=(K.block (w.heap.size+2) (by omega)).trans Q.2.2.1;exact⟨⟨(af b2).trans rfl,(af b2).trans rfl⟩,⟨(af b0).trans rfl,(af b0).trans rfl,(af b0).trans rfl,(af b0).trans rfl⟩,(af b1).trans rfl⟩
 clear U Q;clear a2 C D S s hi;go_enter Tryz.func119,Tryz.ntmps119
 go_wp2_with fail
 rw[z.out];clear z q0 q1 q2 q3;go_loopg [10] T.ops.length (λgk jv wx=>∃j:Nat,gk=T.ops.length- j/\j<=T.ops.length/\jv=.int .i64 j/\Below W.heap.size W wx/\Hid (qj a T.ops=(T.ops.drop j).all (lK a)))
 case atStart=>exact⟨0,rfl,zero_le _,rfl,refl _ _,by rw[Hid,ze];rfl⟩
 case round=>
  obtain⟨j,a8,hj,rfl,J,HQ⟩:=hrel;subst a8;generalize b3:wr=wj at*;clear b3;have d:Below W.heap.size W wj:=(refl W.heap.size W).trans (J.mono (refl W.heap.size W).size);obtain⟨⟨x0,x2⟩,⟨y0,y1,y2,y3⟩,y4⟩:=I wj d;have c6:=d.size;have b7:w.heap.size<wj.heap.size:=by omega
  have b6:w.heap.size+1<wj.heap.size:=by omega
  have b8:w.heap.size+2<wj.heap.size:=by omega
  by_cases v:j<T.ops.length
  ·obtain⟨b,rfl,a7,c0,u⟩:∃b,O=some ⟨b,0,none⟩/\b<w.heap.size/\T.ops.length<=P/\∀(m q:Nat),is[m]? =some q->w.cell? ⟨b,m,none⟩=some (.int .i64 (q:Int)):=by
    rcases a6.out with h|h
    ·rw[h]at v;simp at v
    ·exact h
   have hq:=getElem?_eq_getElem (l:=is) (i:=j) (by have:=f.out;omega);obtain⟨a9,Y⟩:=L.out j _ hq;have a0:wj.cell? ⟨b,j,none⟩=some (.int .i64 ((is[j]'(by have:=f.out;omega):Nat):Int)):=((c.trans (d.mono c.size)).cell (p:=⟨b,j,none⟩) a7).trans (u j _ hq);have b9:b<wj.heap.size:=by have:=c.size;omega
   have E:l[is[j]'(by have:=f.out;omega)]? =some T.ops[j]:=by rw[Y];exact getElem?_eq_getElem v
   have F:SizeOf.sizeOf T.ops[j]<=N:=a1 _ (List.getElem_mem v);have HC:∀x:World,Below wj.heap.size wj x->Calls prog 119 #[.agg #[.slice co cn cc,.slice r H G,.string (aa args),.slice B n A],.agg #[.slice (some ⟨g,0,none⟩) l.length cap],.int .i64 ((is[j]'(by have:=f.out;omega):Nat):Int)] x λe w'=>e=.returned (.bool (lK a T.ops[j]))/\Below wj.heap.size wj w':=by
    intro x K;have a3:Below w.heap.size w x:=(c.trans (d.mono c.size)).trans (K.mono (c.trans (d.mono c.size)).size);exact(hN T.ops[j] x co cn cc r H G args B n A ps a g cap l ty cs _ F (a4.out.ag a3) hK (a5.out.ag a3) E).mono λe w' h=>⟨h.1,K.trans (h.2.mono K.size)⟩
   have HD:Hid ((T.ops.drop j).all (lK a)=(lK a T.ops[j]&&(T.ops.drop (j+1)).all (lK a))):=by rw[Hid,List.drop_eq_getElem_cons v,all_cons]
   obtain⟨qv,Z⟩:∃q,q=lK a T.ops[j]:=⟨_,rfl⟩;rw[<-Z]at HC HD;obtain⟨iq,X⟩:∃q,q=is[j]'(by have:=f.out;omega):=⟨_,rfl⟩;rw[<-X]at HC a0;clear Z X u hq a9 Y E F;go_upto_region 10 with fail
   go_cut [11] (λb4 wx=>b4=.bool qv/\Below wj.heap.size wj wx)
   case first=>
    go_region_with(go_at_call 119;refine(HC _ ?_).mono ?_;(first|exact refl _ wj|exact(refl _ wj).drew);rintro e w3 ⟨rfl,hb3⟩);all_goals(go_wp2_with fail;go_meet)
    all_goals exact⟨rfl,by first|exact hb3|exact hb3.drew⟩
   case rest=>
    obtain⟨rfl,R⟩:=hcut;have BF:Below w.heap.size w wc:=(c.trans (d.mono c.size)).trans (R.mono (c.trans (d.mono c.size)).size);have BN:Below W.heap.size W wc:=J.trans (R.mono J.size)
    cases qv with
    |true=>
     have t:Hid (qj a T.ops=(T.ops.drop (j+1)).all (lK a)):=by rw[Hid,HQ.out,HD.out];rfl
     go_wp2_with fail
     go_roundg (T.ops.length- (j+1))
     case measure=>omega
     case rel=>exact⟨j+1,rfl,by omega,by go_num,BN,t⟩
    |false=>
     have t:Hid (lK a T=false):=by rw[Hid,M.out,HQ.out,HD.out];rfl
     go_wp2_with fail
     go_ret;exact⟨ay t.out.symm,BF⟩
  ·have t:Hid (lK a T=true):=by rw[Hid,M.out,HQ.out,List.drop_of_length_le (by omega)];rfl
   have BF:Below w.heap.size w wj:=c.trans (d.mono c.size)
   go_wp2_with fail
   go_ret;exact⟨ay t.out.symm,BF⟩
end Go.Proofs.YtdifpeaklamhnaaGreatDoor
