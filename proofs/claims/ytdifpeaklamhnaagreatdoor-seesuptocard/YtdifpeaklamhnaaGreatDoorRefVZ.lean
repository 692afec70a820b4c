import Derived.Test.YtdifpeaklamhnaaGreatDoorRefM0Z
set_option linter.unusedVariables false
set_option linter.unusedSimpArgs false
set_option maxRecDepth 100000
set_option maxHeartbeats 0
namespace Go.Proofs.YtdifpeaklamhnaaGreatDoor
open Go.Proofs.Tryz
open Go.RowKit
open Value (slice int)
open World (setCell size_alloc cell?)
open List (append_nil length_drop drop_drop)
open Nat (le_refl zero_le)
def FO(g d:Nat)(o:Option (Tr × Bs)):Option (List Tr × Bs):=
 match o with
 |none=>none
 |some (x,r)=>(nT g d r).map (λp=>(x::p.1,p.2))
theorem QV:(Tryz.prog.info? 3).map (λi=>(i.zero,i.size,i.bytes))=some (some (.int .i64 0),1,8):=by kernel_rfl
def JW(s:ByteArray)(f:Nat):Prop:=∀(w:World) (rb k deep n:Nat) (ao:Option Addr) (cap:Nat) (cs:List Value),dN w rb s k (.slice ao n cap)->k<=s.size->2*(s.size- k)<=f->deep<=20->
 w.ownsRow (rb+1) 183 4 (.slice ao n cap) n cs->n<=k->
  Calls prog 58 #[.pointer (some ⟨rb,0,none⟩),.int .i64 deep] w λe w'=>DN w rb s k (.slice ao n cap) n cs (uJ f deep (s.toList.drop k)) e w'
def NB(w:World)(rb Nb:Nat)(s:ByteArray)(k n k3 f d:Nat)(v:Value)(cs:List Value)(tx:Bs)(gk:Nat)(wr:World):Prop:=
 ∃(f' kk m:Nat) (xs:List Tr) (is:List Nat) (aoL:Option Addr) (capL:Nat) (ds:List Value) (aoA:Option Addr) (nA capA:Nat),
  gk=s.size- kk/\f'<=f/\kk<=s.size/\2*(s.size- kk)+1<=f'/\k+1<=kk/\n<=m/\m+k+1<=n+kk/\xs.length<=kk/\
  Hid (nT f d (s.toList.drop k3)=(nT f' d (s.toList.drop kk)).map (λp=>(xs++p.1,p.2)))/\
  dN wr rb s kk (.slice aoL m capL)/\zI w wr rb v.ownBlock/\wr.ownsRow (rb+1) 183 4 (.slice aoL m capL) m (cs++ds)/\
  ((slice aoL m capL).ownBlock=v.ownBlock\/∃g,(slice aoL m capL).ownBlock=some g/\w.heap.size<=g)/\(slice aoL m capL).ownBlock≠some Nb/\
  wr.heap[Nb]? =some (.cells #[.string (aa tx),.bool true,.slice aoA nA capA,.int .u8 0] 183 (0,0))/\
  wr.ownsRow (Nb+1) 3 1 (.slice aoA nA capA) xs.length (is.map λj:Nat=>int .i64 (j:Int))/\(∀g,(slice aoA nA capA).ownBlock=some g->(slice aoL m capL).ownBlock≠some g)/\
  jl wr (λq=>Nb<q/\(slice aoL m capL).ownBlock≠some q/\(slice aoA nA capA).ownBlock≠some q) (cs++ds) n m is xs
theorem Ph(s:ByteArray)(hs:s.size<=400)(f:Nat)(IH:∀f',f'<f->JW s f')(w:World)(c k a n:Nat)(O:Option Addr)(cap:Nat)(cs:List Value)(h:dN w c s k (.slice O n cap))(hk:k<=s.size)
  (I:w.ownsRow (c+1) 183 4 (.slice O n cap) n cs) (j3:n<=k)
  (X:Nat) (b6:k+kG (s.toList.drop k)=X) (j0:X<s.size) (c9:(s[X]==40)=true) (k2:Nat) (b7:X+1+kG (s.toList.drop (X+1))=k2) (N:Bs) (F:Nat) (h6:k2<F) (e7:F<=s.size)
  (HT:∀(w:World) (c:Nat) (v:Value),dN w c s k2 v->Calls prog 107 #[.pointer (some ⟨c,0,none⟩)] w λe w'=>e=.returned (.string (aa N))/\w.grownBy w' (some c)/\dN w' c s F v)
  (c5:N.length<=maxLen) (hh:oI N=true) (e2:a<20) (hf:2*(s.size- F)+1<=f):
  Calls prog 58 #[.pointer (some ⟨c,0,none⟩),.int .i64 a] w λe w'=>DN w c s k (.slice O n cap) n cs ((nT f (a+1) (s.toList.drop F)).map (λp=>(Tr.mk (aT N) N true p.1,lq (p.2.drop 1)))) e w':=by
 have HA:∀x:World,Calls prog 108 #[.string (aa N)] x λe w'=>e=.returned (.bool true)/\Below x.heap.size x w':=by
  intro x;have:=wZ (aa N) x (by rw[aF];exact c5);rw[au,hh]at this;exact this
 clear hh;go_enter Tryz.func58,Tryz.ntmps58
 go_wp2_with(go_at_call 106;refine(jR s hs _ c k _ h hk).mono ?_;rintro e w2 ⟨rfl,hk1,hg1,hr1⟩)
 rw[b6]at hr1;have j5:=hr1.lt;have r:w2.heap.size≠c:=by omega
 obtain⟨⟨y0,y1,y2⟩,f1,f2⟩:=eX hr1;have h5:((s[X].toNat:Int)==40)=true:=by rw[<-c9];exact kN s[X] 40 (by omega)
 have c2:=hg1.size;have c0:∀o:Obj,dN ((w2.setCell ⟨c,1,none⟩ (.int .i64 ((X:Int)+1))).alloc o).drew c s (X+1) (.slice O n cap):=λo=>by unfold dN;exact dE hr1.inc _
 have i7:decide ((20:Int)<=(a:Int))=false:=by simp;omega
 go_region
 go_wp2_with(first
  |(go_at_call 106;refine(jR s hs _ c (X+1) _ (c0 _) (by omega)).mono ?_;rintro e w3 ⟨rfl,hk2,S,hr3⟩;replace S:=qZ S;rw[b7]at hr3;have a8:w3.heap[w2.heap.size]? =some (.cells #[.string ⟨#[]⟩,.bool false,.slice none 0 0,.int .u8 0] 183 (0,0)):=cz (by simpa[setCell]using bN (w2.setCell ⟨c,1,none⟩ (.int .i64 ((X:Int)+1))) (.cells #[.string ⟨#[]⟩,.bool false,.slice none 0 0,.int .u8 0] 183)) S r;obtain⟨⟨z0,z1,z2,z3⟩,g0,g1,g2,g3⟩:=bE a8)
  |(go_at_call 107;refine(HT _ c _ (gK hr3 r.symm 1 _)).mono ?_;rintro e w4 ⟨rfl,hg4,hr4⟩;have T:=cz (Az a8 _) hg4 r;obtain⟨⟨u0,u1,u2,u3⟩,v0,v1,v2,v3⟩:=bE T)
  |(go_at_call 108;refine(HA _).mono ?_;rintro e w5 ⟨rfl,hb5⟩))
 have G3:w.grownBy w3 (some c):=aB (aS (aB hg1 (eu _ _ _ _)) _) S;have G4:=aB (df G3 c2 1 (.bool true)) hg4;have G5:w.grownBy w5 (some c):=aB (df G4 c2 0 (.string (aa N))) (bC hb5 _);have c1:dN w5 c s F (.slice O n cap):=cu (gK hr4 r.symm 0 _) hb5;have U:=cu (vo T (.string (aa N))) hb5;clear S hr3 a8 z0 z1 z2 z3 g0 g1 g2 g3 hg4 hr4 T u0 u1 u2 u3 v0 v1 v2 v3 hb5 G3 G4 y0 y1 y2 f1 f2 HA HT c0;obtain⟨K,b4⟩:∃K,K=w2.heap.size:=⟨_,rfl⟩;rw[<-b4]at U r ⊢;have W:w5.ownsRow (c+1) 183 4 (.slice O n cap) n (cs++ []):=by
  rw[append_nil];exact aA I λg hg=>G5.block g (I.lt g hg).2 (by have:=(I.lt g hg).1;simp;omega)
 have I0:NB w c K s k n F f (a+1) (.slice O n cap) cs N (s.size- F) w5:=
  ⟨f,F,n,[],[],O,cap,[],none,0,0,rfl,le_refl _,e7,hf,by omega,le_refl _,by omega,zero_le _,by rw[Hid];simp,c1,⟨G5.os,G5.tape,G5.output,G5.size,λg h1 h2 _=>G5.block g h1 (by simpa using h2)⟩,W,.inl rfl,(λe=>by have:=(I.lt _ e).2;omega),U,World.ownsRow_nil _ _ _ _,(λg hg=>by cases hg),.nil⟩
 have e0:w.heap.size<=K:=by omega
 have a4:=h.lt;clear W U c1 G5 b4;go_loopg [7] (s.size- F) (λgk _ wr=>NB w c K s k n F f (a+1) (.slice O n cap) cs N gk wr)
 case atStart=>exact I0
 case round=>
  clear I0;obtain⟨f',l,m,xs,is,t,d,ds,a7,nA,Q,e3,i8,e8,i9,h8,e9,j1,j6,HO,hR,hF,L,a2,c6,D,z,a1,J⟩:=hrel;subst e3;obtain⟨g,rfl⟩:∃g,f'=g+1:=⟨f'- 1,by omega⟩;have i5:=hF.size;have c3:=ai D;have i4:=hR.lt;obtain⟨⟨y0,y1,y2⟩,f1,f2⟩:=eX hR;obtain⟨⟨z0,z1,z2,z3⟩,g0,g1,g2,g3⟩:=bE D;by_cases b8:l<s.size
  ·cases Z:(s[l]==41)with
   |true=>
    have b3:((s[l].toNat:Int)==41)=true:=by rw[<-Z];exact kN s[l] 41 (by omega)
    have e1:decide ((s.size:Int)<=(l:Int))=false:=by simp;omega
    obtain⟨k5,a3⟩:∃k5,l+1+kG (s.toList.drop (l+1))=k5:=⟨_,rfl⟩;have HE:Hid (nT f (a+1) (s.toList.drop F)=some (xs,s.toList.drop l)):=by
     rw[Hid,HO.out,nT,if_neg (by rw[length_drop,ah];omega),yU b8,Z,if_pos rfl];simp
    have HD:Hid (lq ((s.toList.drop l).drop 1)=s.toList.drop k5):=by
     have e:(s.toList.drop l).drop 1=s.toList.drop (l+1):=by rw[drop_drop]
     rw[Hid,e,lq,drop_drop,a3]
    clear HO;have a0:dN (wr.setCell ⟨c,1,none⟩ (.int .i64 ((l:Int)+1))).drew.drew c s (l+1) (.slice t m d):=hR.inc;obtain⟨i0,hi,g9,h0,h3⟩:=info_parts EP
    go_wp2_with fail
    go_region;all_goals(try go_wp2_with fail)
    go_region;all_goals(try go_wp2_with(go_at_call 106;refine(jR s hs _ c (l+1) _ a0 (by omega)).mono ?_;rintro e E ⟨rfl,hk5,y,M⟩))
    rw[a3]at M hk5;replace y:wr.grownBy E (some c):=aB (eu wr c 1 (.int .i64 ((l:Int)+1))) (qZ (qZ y));have g5:=y.size;have A:=cz D y r;have i2:=M.lt;have c4:=ai A;have a5:E.ownsRow (c+1) 183 4 (.slice t m d) m (cs++ds):=aA L λq C=>y.block q (L.lt q C).2 (by have:=(L.lt q C).1;simp;omega);have a9:∀o:Obj,(E.drew.alloc o).ownsRow (c+1) 183 4 (.slice t m d) m (cs++ds):=λo=>World.ownsRow.alloc (show E.drew.ownsRow _ _ _ _ _ _ from a5) o;have g8:(slice t m d).ownBlock≠some c:=λe=>by have:=(L.lt _ e).1;omega
    clear y0 y1 y2 f1 f2 z0 z1 z2 z3 g0 g1 g2 g3 a0;obtain⟨⟨p0,p1,p2⟩,q1,q2⟩:=eX M;obtain⟨⟨x0,x1,x2,x3⟩,_,_,_,_⟩:=bE A
    go_region_law (refine step_append_lies _ rfl (.tmp 127) (.tmp 129) 100 rfl (c+1) 183 i0 _ 4 56 Tryz.underlying100 hi g9 h0 h3 rfl (by decide) (.slice t m d) m (cs++ds) (by simp[Act.eval]) (a9 _) ⟨E.heap.size,0,none⟩ 1 1 [.string (aa N),.bool true,.slice a7 nA Q,.int .u8 0] (by simp[Act.eval]) rfl (World.news_of_block (bN E.drew _)) (by intro u hu;simp at hu;rcases hu with rfl|rfl|rfl|rfl<;>rfl) (by decide) (by unfold maxLen;omega) (by omega) (by simp;omega) (E.heap.size+1) (by simp) ?_;intro g7 P w7 H i R b9;have kR:w7.heap[c]? =_:=(i.block c (by simp;omega) g8.symm).trans (dE M _);have i3:=ai kR;obtain⟨⟨r0,r1,r2⟩,t1,t2⟩:=eX kR)
    all_goals(go_wp2_with fail;go_ret)
    all_goals
     have F6:zI w E c (slice O n cap).ownBlock:=hF.trans (zI.Rt y _) a2;have V:E.ownsRow 0 3 1 (.slice a7 nA Q) xs.length (is.map λj:Nat=>int .i64 (j:Int)):=kw (b:=K+1) (aA z λq C=>y.block q (z.lt q C).2 (by have:=(z.lt q C).1;simp;omega)) (λ_ _=>zero_le _);have B:jl E (λq=>w.heap.size<=q/\(slice t m d).ownBlock≠some q) (cs++ds) n m is xs:=by
      have:=J.bounded.move (x:=E) (S':=λq=>w.heap.size<=q/\(slice t m d).ownBlock≠some q) [] (λq C=>y.block q C.2 (by have:=C.1.1;simp;omega)) (λq C=>⟨by have:=C.1.1;omega,C.1.2.1⟩)
      rwa[append_nil]at this
     obtain⟨A1,A2,A3,A4,A5⟩:=FN (aT N) (v:=.slice O n cap) a4 F6 a2 (by exact⟨rfl,rfl,rfl,by simp,λg hg=>Below.heap_alloc _ _ _ hg⟩) a5 i H R kR V (λq C=>⟨by have:=(z.lt q C).1;omega,a1 q C⟩) B (λh=>by cases h) c5;exact⟨A1,.inr ⟨_,k5,g7,P,m,_,by rw[HE.out,Option.map_some,HD.out],by omega,hk5,e9,by omega,rfl,A2,A3,A4,A5⟩⟩
   |false=>
    have b3:((s[l].toNat:Int)==41)=false:=by rw[<-Z];exact kN s[l] 41 (by omega)
    have Y:Hid (nT f (a+1) (s.toList.drop F)=(FO g (a+1) (uJ g (a+1) (s.toList.drop l))).map (λp=>(xs++p.1,p.2))):=by
     rw[Hid,HO.out,nT,if_neg (by rw[length_drop,ah];omega),yU b8,Z,if_neg Bool.false_ne_true];rfl
    clear HO;have HC:Calls prog 58 #[.pointer (some ⟨c,0,none⟩),.int .i64 ((a:Int)+1)] wr.drew λe w'=>DN wr.drew c s l (.slice t m d) m (cs++ds) (uJ g (a+1) (s.toList.drop l)) e w':=
     IH g (by omega) wr.drew c l (a+1) m t d (cs++ds) hR e8 (by omega) (by omega) L (by omega)
    obtain⟨i1,hj,e4,e5,e6⟩:=info_parts QV
    go_wp2_with fail
    go_region
    go_wp2_with(go_at_call 58;refine HC.mono ?_)
    rintro e E ⟨G,hres⟩;replace G:=G.qZ;have g5:=G.size;have A:E.heap[K]? =_:=(G.block K c3 r c6).trans D;have c4:=ai A;obtain⟨⟨x0,x1,x2,x3⟩,t0,t1,t2,t3⟩:=bE A;rcases hres with⟨ho,rfl,k9,c7,n9,b2,a0⟩|⟨x,k',g6,b1,n',c8,ho,h7,b5,j4,h9,rfl,M,g4,y,B⟩
    ·have HE:Hid (nT f (a+1) (s.toList.drop F)=none):=by rw[Hid,Y.out,ho];rfl
     clear Y
     go_wp2_with fail
     go_ret;exact⟨hF.trans G a2,.inl ⟨by rw[HE.out];rfl,rfl,k9,c7,n9,b2,a0⟩⟩
    ·have HE:Hid (nT f (a+1) (s.toList.drop F)=(nT g (a+1) (s.toList.drop k')).map (λp=>((xs++ [x])++p.1,p.2))):=by rw[Hid,Y.out,ho,FO];cases nT g (a+1) (s.toList.drop k')<;>simp
     clear Y;have j2:decide ((n':Int)<0)=false:=by simp
     have V:E.ownsRow (K+1) 3 1 (.slice a7 nA Q) xs.length (is.map λj:Nat=>int .i64 (j:Int)):=aA z λq C=>G.block q (z.lt q C).2 (by have:=(z.lt q C).1;omega) (a1 q C);have j7:xs.length<=400:=by omega
     have b0:Hid _:=J;have a6:Hid _:=B;clear J B
     go_wp2_with(at_builtin;refine wpList_append_lies _ rfl (.tmp 85) (.tmp 87) 42 rfl (K+1) 3 i1 (.int .i64 0) 1 8 Tryz.underlying42 hj e4 e5 e6 rfl (by decide) _ _ _ rfl (V.alloc _) ⟨E.heap.size,0,none⟩ 1 1 [.int .i64 (n':Int)] rfl rfl (World.news_of_block (bN E _)) ?d2 ?d3 ?d4 ?d5 ?d6 (E.heap.size+1) ?d7 ?_)
     case d2=>intro u hu;simp at hu;subst hu;rfl
     case d3=>decide
     case d4=>unfold maxLen;omega
     case d5=>omega
     case d6=>simp;omega
     case d7=>simp
     intro g7 P w7 H i R b9;obtain⟨B1,B2,B3,B4,B5,B6,B7,B8,B9⟩:=Pk a4 e0 c3 hF a2 c6 z a1 L b0.out D G M g4 y a6.out i H R;have h4:w7.heap[K]? =_:=(i.block K (by simp;omega) (λe=>by have:=(z.lt K e.symm).1;omega)).trans (dE A _);obtain⟨⟨l0,l1,l2,l3⟩,m0,m1,m2,m3⟩:=bE h4
     go_wp2_with fail
     go_roundg (s.size- k')
     case measure=>omega
     case rel=>exact⟨g,k',n'+1,xs++ [x],is++ [n'],_,b1,ds++c8,_,_,P,rfl,by omega,b5,by omega,by omega,by omega,by omega,by simp;omega,HE,B1,B2,B3,B4,B5,B6,B7,B8,B9⟩
  ·have i6:decide ((l:Int)<(s.size:Int))=false:=by simp;omega
   have e1:decide ((s.size:Int)<=(l:Int))=true:=by simp;omega
   have HE:Hid (nT f (a+1) (s.toList.drop F)=none):=by
    rw[Hid,HO.out,List.drop_of_length_le (by rw[ah];omega),nT];rfl
   clear HO J z a1
   go_wp2_with fail
   go_region;all_goals(try go_wp2_with fail)
   go_region;all_goals(try go_wp2_with fail)
   go_ret;exact⟨⟨hF.os,hF.tape,hF.output,hF.size,hF.block⟩,.inl ⟨by rw[HE.out];rfl,rfl,l,t,m,d,hR⟩⟩
theorem Rv(s:ByteArray)(p:s.size<=400)(f:Nat):JW s f:=by
 induction f using Nat.strongRecOn with
 |ind f ih=>
  intro w x k b n q cap cs h t N M o C;obtain⟨a,c⟩:∃a,k+kG (s.toList.drop k)=a:=⟨_,rfl⟩;have K:a<=s.size:=by have:=Jw (s.toList.drop k);rw[length_drop,ah]at this;omega
  have G:lq (s.toList.drop k)=s.toList.drop a:=by rw[lq,drop_drop,c]
  cases f with
  |zero=>
   rw[uJ];exact yX s p w x k b n q cap cs h t a c (.inl (by omega))
  |succ f=>
   rw[uJ,G];by_cases d:a<s.size
   ·rw[yU d]
    cases i:(s[a]==40)with
    |true=>
     rw[if_pos rfl];obtain⟨v,j⟩:∃v,a+1+kG (s.toList.drop (a+1))=v:=⟨_,rfl⟩;have B:v<=s.size:=by have:=Jw (s.toList.drop (a+1));rw[length_drop,ah]at this;omega
     have H:lq ((s.toList.drop a).drop 1)=s.toList.drop v:=by
      have e:(s.toList.drop a).drop 1=s.toList.drop (a+1):=by rw[drop_drop]
      rw[e,lq,drop_drop,j]
     rw[H];obtain⟨g,E,z,L,hb,J,l,D⟩:=JF s p v B;rw[z];simp only
     cases y:(oI g&&decide (b<20))with
     |true=>
      rw[if_pos rfl];rw[Bool.and_eq_true,decide_eq_true_eq]at y;have u:g≠ []:=by intro e;subst e;have:=y.1;cases this
      have A:=J u;exact Ph s p f (λI h=>ih I (by omega)) w x k b n q cap cs h t o C a c d i v j g E A hb D l y.1 y.2 (by omega)
     |false=>
      rw[if_neg Bool.false_ne_true];refine FM s p w x k b n q cap cs h t a c d i v j g E D l ?_;rw[Bool.and_eq_false_iff,decide_eq_false_iff_not]at y;rcases y with h|h
      ·exact .inl h
      ·exact .inr (by omega)
    |false=>
     rw[if_neg Bool.false_ne_true]
     cases hb:aM s[a].toNat with
     |true=>
      have z:jS (s.toList.drop a)=([],s.toList.drop a):=by unfold jS;rw[if_pos];right;rw[yU d];exact hb
      rw[z];exact yX s p w x k b n q cap cs h t a c (.inr ⟨d,hb,i⟩)
     |false=>
      have z:jS (s.toList.drop a)=(cO (s.toList.drop a),lq ((s.toList.drop a).drop (bU (s.toList.drop a)))):=by
       unfold jS;rw[if_neg];rintro(h|h)
       ·rw[length_drop,ah]at h;omega
       ·rw[yU d,hb]at h;cases h
      rw[z];simp only;obtain⟨g,m⟩:∃g,cO (s.toList.drop a)=g:=⟨_,rfl⟩;have l:g.length<=maxLen:=by
       rw[<-m];unfold cO;split
       ·rw[List.length_take,length_drop,ah];unfold maxLen;omega
       ·simp
      rw[m]
      cases r:gm g with
      |true=>
       have u:g≠ []:=by intro e;subst e;cases r
       rw[if_pos rfl];exact Pg s p w x k b n q cap cs h t o (by omega) a c d i hb g u m r l _ rfl
      |false=>
       rw[if_neg Bool.false_ne_true];exact Rw s p w x k b n q cap cs h t a c d i hb g m r l
   ·have F:s.toList.drop a= []:=List.drop_of_length_le (by rw[ah];omega);rw[F];exact yX s p w x k b n q cap cs h t a c (.inl (by omega))
def KY(w:World)(o:Option Tr)(e:Ending)(w':World):Prop:=Below w.heap.size w w'/\
 ((o=none/\∃ao m cap,e=.returned (.tuple #[.agg #[.slice ao m cap],.bool false]))\/
  (∃g cap n cs t,o=some t/\n<=400/\e=.returned (.tuple #[.agg #[.slice (some ⟨g,0,none⟩) (n+1) cap],.bool true])/\
   w'.ownsRow w.heap.size 183 4 (.slice (some ⟨g,0,none⟩) (n+1) cap) (n+1) cs/\zN w' (λ_=>True) cs 0 n t))
def wu(o:Option (Tr × Bs)):Option Tr:=match o with|some (t,[])=>some t|_=>none
theorem Jk(l:Bs):Jj l=wu (uJ (2*l.length+1) 0 l):=rfl
theorem Ay{w w':World}{o b:Obj}(F:zI ((w.alloc o).alloc b) w' (w.heap.size+1) none)(v:Value):Below w.heap.size w (w'.setCell ⟨w.heap.size,0,none⟩ v):=by
 have h:=F.size;simp only[size_alloc]at h
 suffices hB:Below w.heap.size w w' from hB.setCell (le_refl _) _
 refine⟨F.os,F.tape,F.output,by omega,λg a=> ?_⟩;rw[F.block g (by simp only[size_alloc];omega) (by omega) (by intro h;cases h),Below.heap_alloc _ _ _ (by simp only[size_alloc];omega),Below.heap_alloc _ _ _ a]
theorem uT{w w':World}{o a:Obj}(F:zI ((w.alloc o).alloc a) w' (w.heap.size+1) none):w'.heap[w.heap.size]? =some o:=by
 rw[F.block _ (by simp only[size_alloc];omega) (by omega) (by intro h;cases h),Below.heap_alloc _ _ _ (by simp only[size_alloc];omega)];exact heap_alloc_new w o
theorem nP{x:World}{b:Nat}{a0:Value}{T:TypeId}(h:x.heap[b]? =some (.cells #[a0] T (0,0))):x.cell? ⟨b,0,none⟩=some a0/\x.frozen? ⟨b,0,none⟩=false:=by
 simp[cell?,World.frozen?,h]
theorem rF{x:World}{b:Nat}{a0 v:Value}{T:TypeId}(h:x.heap[b]? =some (.cells #[a0] T (0,0))):(x.setCell ⟨b,0,none⟩ v).cell? ⟨b,0,none⟩=some v:=by
 simp[cell?,setCell,Array.getElem?_modify,h]
theorem Hm{t:Tr}{s:ByteArray}{k:Nat}(a:k=s.size):wu (some (t,s.toList.drop k))=some t:=by
 have e:s.toList.drop k= []:=List.drop_of_length_le (by rw[ah];omega);rw[e];rfl
theorem Hl{t:Tr}{s:ByteArray}{k:Nat}(a:k<s.size):wu (some (t,s.toList.drop k))=none:=by
 rw[drop_cons s k a];rfl
theorem zq(s:ByteArray)(w:World)(G:s.size<=400)(o:Option (Tr × Bs))
  (r:∀(w:World) (p:Nat),dN w p s 0 (.slice none 0 0)->Calls prog 58 #[.pointer (some ⟨p,0,none⟩),.int .i64 0] w λe w'=>DN w p s 0 (.slice none 0 0) 0 [] o e w'):
  Calls prog 22 #[.string s] w λe w'=>KY w (wu o) e w':=by
 have E:decide ((s.size:Int)<=400)=true:=by simp;omega
 have c:dN ((w.alloc (.cells #[.slice none 0 0] 102)).alloc (.cells #[.string s,.int .i64 0,.slice none 0 0] 180)) (w.heap.size+1) s 0 (.slice none 0 0):=by
  have:=bN (w.alloc (.cells #[.slice none 0 0] 102)) (.cells #[.string s,.int .i64 0,.slice none 0 0] 180);rw[size_alloc]at this;exact this
 go_enter Tryz.func22,Tryz.ntmps22
 go_wp2_with(go_at_call 58;refine(r _ _ c).mono ?_)
 clear r;rintro e w2 ⟨F,⟨rfl,rfl,f,ao,m,cap,hr⟩|⟨t,f,g,cap,a,ds,rfl,hk0,hk,hn0,hn,rfl,hr,hown,hg,hrep⟩⟩
 ·obtain⟨⟨A,B,C⟩,f1,f2⟩:=eX hr;obtain⟨z0,u⟩:=nP (uT F);have d:Hid (Below w.heap.size w (w2.setCell ⟨w.heap.size,0,none⟩ (.slice ao m cap))):=Ay F _;have i:=rF (uT F) (v:=.slice ao m cap);clear c F
  go_wp2_with fail
  go_region
  go_wp2_with fail
  exact bodyPost_ret (v:=.tuple #[.agg #[.slice ao m cap],.bool false]) (by simp[results,Tryz.results22,go_sem,i]) rfl ⟨d.out.drew,.inl ⟨rfl,_,_,_,rfl⟩⟩
 ·obtain⟨⟨A,B,C⟩,f1,f2⟩:=eX hr;obtain⟨z0,u⟩:=nP (uT F);have d:Hid (Below w.heap.size w (w2.setCell ⟨w.heap.size,0,none⟩ (.slice (some ⟨g,0,none⟩) (a+1) cap))):=Ay F _;have i:=rF (uT F) (v:=.slice (some ⟨g,0,none⟩) (a+1) cap);have z:decide ((0:Int)<=(a:Int))=true:=by simp
  by_cases b:f=s.size
  ·have j:Hid (KY w (wu (some (t,s.toList.drop f))) (.returned (.tuple #[.agg #[.slice (some ⟨g,0,none⟩) (a+1) cap],.bool true])) (w2.setCell ⟨w.heap.size,0,none⟩ (.slice (some ⟨g,0,none⟩) (a+1) cap)).drew):=by
    rw[Hid,Hm b];have n:=F.size;simp only[size_alloc]at n;have y:w.heap.size+2<=g:=by
     rcases hg with h|h
     ·cases h
     ·simpa only[size_alloc]using h
    refine⟨d.out.drew,.inr ⟨g,cap,a,[]++ds,t,rfl,by omega,rfl, ?_, ?_⟩⟩
    ·exact kw (ownsRow_setCell_below hown (by show w.heap.size<w.heap.size+1+1;omega) _) λq l=>by have:g=q:=Option.some.inj l;omega
    ·have:=hrep.move (x:=(w2.setCell ⟨w.heap.size,0,none⟩ (.slice (some ⟨g,0,none⟩) (a+1) cap)).drew) (S':=λ_=>True) [] (λq l=>Below.heap_setCell _ _ _ _ (by have:=l.1;simp only[size_alloc]at this;show q≠w.heap.size;omega)) (λ_ _=>trivial)
     rwa[append_nil]at this
   have k:((f:Int)==(s.size:Int))=true:=by rw[b];simp
   clear c F hown hrep d hg b
   go_wp2_with fail
   go_region;all_goals(try go_wp2_with fail)
   all_goals exact bodyPost_ret (v:=.tuple #[.agg #[.slice (some ⟨g,0,none⟩) (a+1) cap],.bool true]) (by simp[results,Tryz.results22,go_sem,i]) rfl j.out
  ·have j:Hid (KY w (wu (some (t,s.toList.drop f))) (.returned (.tuple #[.agg #[.slice (some ⟨g,0,none⟩) (a+1) cap],.bool false])) (w2.setCell ⟨w.heap.size,0,none⟩ (.slice (some ⟨g,0,none⟩) (a+1) cap)).drew):=by
    rw[Hid,Hl (by omega)];exact⟨d.out.drew,.inl ⟨rfl,_,_,_,rfl⟩⟩
   have k:((f:Int)==(s.size:Int))=false:=by simp;omega
   clear c F hown hrep d hg b
   go_wp2_with fail
   go_region;all_goals(try go_wp2_with fail)
   all_goals exact bodyPost_ret (v:=.tuple #[.agg #[.slice (some ⟨g,0,none⟩) (a+1) cap],.bool false]) (by simp[results,Tryz.results22,go_sem,i]) rfl j.out
theorem OV(w:World)(o a:Obj):zI ((w.alloc o).alloc a) ((w.alloc o).alloc a) (w.heap.size+1) none:=⟨rfl,rfl,rfl,le_refl _,λ_ _ _ _=>rfl⟩
theorem Ah(s:ByteArray)(w:World)(d:400<s.size):
  Calls prog 22 #[.string s] w λe w'=>KY w none e w':=by
 have f:decide ((s.size:Int)<=400)=false:=by simp;omega
 obtain⟨w2,b⟩:∃w2,w2=(w.alloc (.cells #[.slice none 0 0] 102)).alloc (.cells #[.string s,.int .i64 0,.slice none 0 0] 180):=⟨_,rfl⟩;have F:=OV w (.cells #[.slice none 0 0] 102) (.cells #[.string s,.int .i64 0,.slice none 0 0] 180);have a:dN ((w.alloc (.cells #[.slice none 0 0] 102)).alloc (.cells #[.string s,.int .i64 0,.slice none 0 0] 180)) (w.heap.size+1) s 0 (.slice none 0 0):=by
  have:=bN (w.alloc (.cells #[.slice none 0 0] 102)) (.cells #[.string s,.int .i64 0,.slice none 0 0] 180);rw[size_alloc]at this;exact this
 obtain⟨⟨g,h,i⟩,f1,f2⟩:=eX a;obtain⟨z0,c⟩:=nP (uT F);clear a F;go_enter Tryz.func22,Tryz.ntmps22
 go_wp2_with fail
 go_region;all_goals(try go_wp2_with fail)
 all_goals exact bodyPost_ret (v:=.tuple #[.agg #[.slice none 0 0],.bool false]) (by simp[results,Tryz.results22,go_sem]) rfl ⟨(((Below.refl _ w).alloc (le_refl _) _).alloc (by simp[size_alloc]) _).drew,.inl ⟨rfl,_,_,_,rfl⟩⟩
theorem CR(s:ByteArray)(w:World):Calls prog 22 #[.string s] w λe w'=>KY w (iW s.toList) e w':=by
 by_cases h:s.size<=400
 ·rw[<-PH _ (by rw[ah];exact h),Jk];refine zq s w h _ λw b a=> ?_;have:=Rv s h (2*s.toList.length+1) w b 0 0 0 none 0 [] a (zero_le _) (by rw[ah];omega) (by omega) ⟨rfl,.inl ⟨rfl,rfl⟩⟩ (le_refl _);exact this
 ·have e:iW s.toList=none:=by unfold iW;rw[if_pos (by rw[ah];omega)]
  rw[e];exact Ah s w (by omega)
end Go.Proofs.YtdifpeaklamhnaaGreatDoor
