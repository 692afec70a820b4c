import Derived.Test.YtdifpeaklamhnaaGreatDoorEvX
set_option linter.unusedVariables false
set_option linter.unusedSimpArgs false
set_option maxRecDepth 100000
set_option maxHeartbeats 0
namespace Go.Proofs.YtdifpeaklamhnaaGreatDoor
open Go.Proofs.Tryz
open Go.RowKit
open World (size_alloc size_setCell)
open Nat (lt_of_lt_of_le)
structure DF(w:World)(FB:List Nat)(fns:List Fn)(user:Bs)(wb:Nat):Prop where
 wk:∃no nn nc,w.heap[wb]? =some (.cells #[.string (aa user),.slice no nn nc] 221 (0,0))
 fb:FB.length=fns.length
 fn:∀(i q:Nat) (fn:Fn),FB[i]? =some q->fns[i]? =some fn->mP w FB q fn
theorem DF.ag{w x:World}{e:List Nat}{fns:List Fn}{c:Bs}{d:Nat}(h:DF w e fns c d)(hb:Below w.heap.size w x):DF x e fns c d:=by
 obtain⟨⟨m,l,k,f⟩,g,j⟩:=h;exact⟨⟨m,l,k,(hb.block d (ai f)).trans f⟩,g,λi q fn a b=>(j i q fn a b).ag hb⟩
structure xC(w:World)(FB:List Nat)(fns:List Fn)(user:Bs)(wb:Nat)(cv av:Value)(ax args:List aj):Prop where
 env:DF w FB fns user wb
 ax:aO w cv ax
 args:aO w av args
theorem xC.ag{w x:World}{b:List Nat}{fns:List Fn}{a:Bs}{d:Nat}{cv c:Value}{ax args:List aj}(h:xC w b fns a d cv c ax args)(hb:Below w.heap.size w x):xC x b fns a d cv c ax args:=
 ⟨h.env.ag hb,h.ax.ag hb,h.args.ag hb⟩
theorem xC.lt{w:World}{c:List Nat}{fns:List Fn}{a:Bs}{b:Nat}{e d:Value}{ax args:List aj}(h:xC w c fns a b e d ax args):b<w.heap.size:=by
 obtain⟨_,_,_,f⟩:=h.env.wk;exact ai f
def fA(w:World)(v:aj)(e:Ending)(w':World):Prop:=e=.returned (.tuple #[.agg #[.int .i64 v.1,.int .i64 v.2.1,.string (aa v.2.2)],.int .i64 0])/\Below w.heap.size w w'
def ru(fns:List Fn)(user:Bs)(N:Nat):Prop:=∀(e:Ex) (v:aj) (w:World) (FB:List Nat) (wb:Nat) (ax args:List aj) (co:Option Addr) (cn cc:Nat) (ao:Option Addr) (an ac:Nat) (c:Array Value),tY fns user N ax args e=some v->
 xC w FB fns user wb (.slice co cn cc) (.slice ao an ac) ax args->dJ w FB (λ_=>True) c.toList e->
 Calls prog 126 #[.agg #[.pointer (some ⟨wb,0,none⟩),.slice co cn cc,.slice ao an ac],.agg c] w λe w'=>fA w v e w'
def fE:List aj->List Value
 | []=>[]
 |c::cs=>gV c++fE cs
theorem uq(a b:List aj):fE (a++b)=fE a++fE b:=by
 induction a with
 |nil=>rfl
 |cons c cs ih=>simp[fE,ih]
theorem qF:∀(cs:List aj) (i:Nat) (c:aj),cs[i]? =some c->∀j,j<3->(fE cs)[i*3+j]? =(gV c)[j]?
 | [],i,c,h,_,_=>by simp at h
 |d::cs,0,c,h,j,hj=>by
  simp at h;subst h;rw[fE,List.getElem?_append_left (by simp[gV];omega)];simp
 |d::cs,i+1,c,h,j,hj=>by
  have:=qF cs i c (by simpa using h) j hj;rw[fE,List.getElem?_append_right (by simp[gV];omega),<-this];congr 1;simp[gV];omega
theorem Cc{w:World}{b:Nat}{v:Value}{cs:List aj}(h:w.ownsRow b 56 3 v cs.length (fE cs))(m:cs.length<=1000):aO w v cs:=by
 rcases h.2 with⟨rfl,d⟩|⟨g,cap,a,rfl,n⟩
 ·have:cs= []:=List.length_eq_zero_iff.mp d;subst this;exact⟨_,_,rfl,by simp,.inl rfl⟩
 ·refine⟨_,_,rfl,by unfold maxLen;omega,.inr ⟨g,0,rfl,(h.lt g rfl).2,λi c e=> ?_⟩⟩;have k:∀j u,j<3->(gV c)[j]? =some u->w.cell? ⟨g,i*3+j,none⟩=some u:=by
   intro j u f l;have:=h.cells (g:=g) rfl (i*3+j) u (by rw[qF cs i c e j f];exact l);rw[Addr.add_lit]at this;simpa using this
  refine⟨?_, ?_, ?_⟩
  ·have:=k 0 _ (by omega) rfl;simpa using this
  ·have:=k 1 _ (by omega) rfl;simpa using this
  ·have:=k 2 _ (by omega) rfl;simpa using this
theorem zG(fns:List Fn)(l:Bs)(N:Nat)(HV:ru fns l N)(w:World)(J:List Nat)(F:Nat)(ax args:List aj)(co:Option Addr)(cn cc:Nat)(y:Option Addr)(v t:Nat)
  (hF:xC w J fns l F (.slice co cn cc) (.slice y v t) ax args) (oo:Option Addr) (V oc:Nat) (n:List Ex) (G:lH w J (.slice oo V oc) n) (hl:n.length<=1000) (cs:List aj) (O:rq (tY fns l N ax args) n=some cs):
  Calls prog 252 #[.agg #[.pointer (some ⟨F,0,none⟩),.slice co cn cc,.slice y v t],.slice oo V oc] w λe w'=>∃ro rn rc,e=.returned (.tuple #[.slice ro rn rc,.int .i64 0])/\aO w' (.slice ro rn rc) cs/\Below w.heap.size w w':=by
 obtain⟨i0,hi,P,Q,S⟩:=info_parts yM;obtain⟨Y,f⟩:=Bt O;have L:V=n.length:=by obtain⟨_,_,_,e,_⟩:=G;cases e;rfl
 subst L;go_enter Tryz.func252,Tryz.ntmps252
 go_wp2_with fail
 go_loopw [6,13] (λkv T wr=>∃(i kn H:Nat) (I:Option Addr),i<=n.length/\kv=.slice I kn H/\T=.int .i64 i/\wr.ownsRow (w.heap.size+1) 56 3 (.slice I kn H) i (fE (cs.take i))/\Below (w.heap.size+1) (w.alloc (.cells #[.pointer (some ⟨F,0,none⟩),.slice co cn cc,.slice y v t] 312)) wr) (λ_ T _=>n.length- (intOf T).toNat)
 case atStart=>exact⟨0,0,0,none,Nat.zero_le _,rfl,rfl,World.ownsRow_nil _ _ _ _,Below.refl _ _⟩
 case round=>
  obtain⟨i,kn,H,I,a2,rfl,rfl,a,A⟩:=hrel;have M:=A.size;simp only[size_alloc]at M;have B:Below w.heap.size w wr:=(ae w _).trans (A.mono (by omega));by_cases E:i<n.length
  ·obtain⟨g,sort,ty,size,quiet,vk,vn,vs,place,head,fp,xo,xn,xc,rfl,hg,hx,d⟩:=yH G i E;obtain⟨q0,q1,q2,q3,q4,q5,q6,q7,q8,q9,W⟩:=d wr λp hp=>B.cell (by rw[hp];exact hg);obtain⟨z,r,C⟩:=f i E;obtain⟨⟨f0,f1,f2⟩,_⟩:=aQ ((A.block w.heap.size (by omega)).trans (heap_alloc_new w _));have a1:g<wr.heap.size:=by omega
   have a4:w.heap.size<wr.heap.size:=by omega
   have X:Hid (cs.take (i+1)=cs.take i++ [z]):=by
    have D:i<cs.length:=by omega
    rw[Hid,List.take_succ_eq_append_getElem D];rw[List.getElem?_eq_getElem D]at r;rw[Option.some.inj r]
   have HC:=HV n[i] z (wr.alloc (.cells #[.int .i64 sort,.int .i64 ty,.int .i64 size,.bool quiet,.int .i64 vk,.int .i64 vn,.string (aa vs),.int .i64 place,.string (aa head),.pointer fp,.slice xo xn xc] 210)) J F ax args co cn cc y v t #[.int .i64 sort,.int .i64 ty,.int .i64 size,.bool quiet,.int .i64 vk,.int .i64 vn,.string (aa vs),.int .i64 place,.string (aa head),.pointer fp,.slice xo xn xc] C ((hF.ag B).ag (ae wr _)) ((hx.ag B).ag (ae wr _));clear d C hx r G hF f O
   go_wp2_with(first
    |(go_at_call 126;refine HC.mono ?_;rintro e w2 ⟨rfl,hb2⟩;have m:Below wr.heap.size wr w2:=(ae wr _).trans (hb2.mono (by simp[size_alloc]));have a3:=m.size)
    |(at_builtin;refine wpList_append_own _ rfl (.tmp 26) (.tmp 28) 57 rfl (w.heap.size+1) 56 i0 (.agg #[.int .i64 0,.int .i64 0,.string ⟨#[]⟩]) 3 32 Tryz.underlying57 hi P Q S rfl (by decide) _ _ _ rfl (((aA a (x:=w2) ?c0).alloc _).alloc _) ⟨w2.heap.size+1,0,none⟩ 1 1 [.int .i64 z.1,.int .i64 z.2.1,.string (aa z.2.2)] rfl rfl ?c1 ?c2 ?c3 ?c4 ?c5 ?_))
   case c0=>intro q hq;exact m.block q (a.lt q hq).2
   case c1=>
    intro j u s
    match j,s with
    |0,s|1,s|2,s=>simp at s;subst s;simp[Addr.add]
   case c2=>intro u Z;simp at Z;rcases Z with rfl|rfl|rfl<;>rfl
   case c3=>unfold maxLen;omega
   case c4=>omega
   case c5=>simp;omega
   ·intro v' w3 b h _;obtain⟨o,U,c,rfl⟩:∃o U c,v'=.slice o U c:=by
     rcases b.2 with⟨e,_⟩|⟨q,c,a0,e,_⟩<;>exact⟨_,_,_,e⟩
    have R:w3.ownsRow (w.heap.size+1) 56 3 (.slice o U c) (i+1) (fE (cs.take (i+1))):=by
     rw[X.out,uq];exact b
    have RB:Below (w.heap.size+1) (w.alloc (.cells #[.pointer (some ⟨F,0,none⟩),.slice co cn cc,.slice y v t] 312)) w3:=
     (((A.trans (m.mono (by omega))).alloc (by omega) _).alloc (by simp;omega) _).grown h (by simp;omega) (λk hk=>(a.lt k hk).1)
    clear b h a X q0 q1 q2 q3 q4 q5 q6 q7 q8 q9 W f0 f1 f2 A m hb2 B
    go_wp2
    go_roundw
    case rel=>exact⟨i+1,_,_,_,by omega,rfl,by go_num,R,RB⟩
    case measure=>simp[intOf];omega
  ·have K:i=cs.length:=by omega
   have HI:Hid (aO wr (.slice I kn H) cs):=by
    rw[K,List.take_length]at a;exact Cc a (by omega)
   clear a G hF f O
   go_wp2_with fail
   go_ret2;exact⟨_,_,_,rfl,HI.out,B⟩
theorem Fb(w:World)(a b:Obj)(g:Nat)(h:g<w.heap.size):((w.alloc a).alloc b).heap[g]? =w.heap[g]? :=
 (Below.heap_alloc _ _ _ (by rw[size_alloc];omega)).trans (Below.heap_alloc _ _ _ h)
theorem Hf(fns:List Fn)(f:Bs)(N:Nat)(HV:ru fns f N)(w:World)(FB:List Nat)(O:Nat)(ax args:List aj)(co:Option Addr)(cn cc:Nat)(K:Option Addr)(J I:Nat)
  (hF:xC w FB fns f O (.slice co cn cc) (.slice K J I) ax args) (oo:Option Addr) (on oc:Nat) (l:List Ex) (Y:lH w FB (.slice oo on oc) l) (hl:l.length<=1000) (m:Int) (a:aj) (r:aj) (hv:JO (tY fns f N ax args) (3,m,[]) a l=some r):
  Calls prog 297 #[.agg #[.pointer (some ⟨O,0,none⟩),.slice co cn cc,.slice K J I],.agg #[.int .i64 3,.int .i64 m,.string ⟨#[]⟩],.agg #[.int .i64 a.1,.int .i64 a.2.1,.string (aa a.2.2)],.slice oo on oc] w λe w'=>fA w r e w':=by
 have a1:on=l.length:=by obtain⟨_,_,_,e,_⟩:=Y;cases e;rfl
 subst a1;have S:=NN w (.cells #[.pointer (some ⟨O,0,none⟩),.slice co cn cc,.slice K J I] 312) (aI 3 m ⟨#[]⟩) (aI a.1 a.2.1 (aa a.2.2)) (aI 0 0 ⟨#[]⟩) (aI a.1 a.2.1 (aa a.2.2));obtain⟨k0,k1,_,k3,k4⟩:=UR w (.cells #[.pointer (some ⟨O,0,none⟩),.slice co cn cc,.slice K J I] 312) (aI 3 m ⟨#[]⟩) (aI a.1 a.2.1 (aa a.2.2)) (aI 0 0 ⟨#[]⟩) (aI a.1 a.2.1 (aa a.2.2));have a7:=hF.lt;go_enter Tryz.func297,Tryz.ntmps297
 go_wp2_with fail
 obtain⟨W,z⟩:∃W,W=((((w.alloc (.cells #[.pointer (some ⟨O,0,none⟩),.slice co cn cc,.slice K J I] 312)).alloc (aI 3 m ⟨#[]⟩)).alloc (aI a.1 a.2.1 (aa a.2.2))).alloc (aI 0 0 ⟨#[]⟩)).alloc (aI a.1 a.2.1 (aa a.2.2)):=⟨_,rfl⟩;have a2:W.heap.size=w.heap.size+5:=by rw[z];simp[size_alloc]
 go_loopw [18] (λiv wr=>∃(i:Nat) (d:aj),i<=l.length/\iv=.int .i64 i/\wr.heap[w.heap.size+4]? =some (aI d.1 d.2.1 (aa d.2.2))/\Hid (JO (tY fns f N ax args) (3,m,[]) d (l.drop i)=some r)/\Below (w.heap.size+4) W wr) (λiv _=>l.length- (intOf iv).toNat)
 case atStart=>exact⟨0,a,Nat.zero_le _,rfl,k4,hv,by rw[z];exact Below.refl _ _⟩
 case round=>
  obtain⟨i,d,a5,rfl,n,H,y⟩:=hrel;have a6:=y.size;rw[<-z]at k0 k1 k3 S;have M:Below w.heap.size w wr:=S.trans (y.mono (by omega));have E:=(y.block _ (by omega)).trans k3;have L:=(y.block (w.heap.size+1) (by omega)).trans k1;obtain⟨⟨f0,f1,f2⟩,_⟩:=aQ ((y.block w.heap.size (by omega)).trans k0);have b0:w.heap.size<wr.heap.size:=by omega
  have b1:w.heap.size+1<wr.heap.size:=by omega
  have b3:w.heap.size+3<wr.heap.size:=by omega
  have b4:w.heap.size+4<wr.heap.size:=by omega
  clear z k0 k1 k3 k4;by_cases T:i<l.length
  ·obtain⟨g,sort,ty,size,quiet,vk,vn,vs,place,head,fp,xo,xn,xc,rfl,hg,hx,o⟩:=yH Y i T;obtain⟨q0,q1,q2,q3,q4,q5,q6,q7,q8,q9,a8⟩:=o wr λp hp=>M.cell (by rw[hp];exact hg);have a4:g<wr.heap.size:=by omega
   rw[List.drop_eq_getElem_cons T]at H;obtain⟨u,F⟩:∃u,tY fns f N ax args l[i]=some u:=by
    cases h:tY fns f N ax args l[i]with
    |some u=>exact⟨u,rfl⟩
    |none=>have:=H.out;rw[JO,h]at this;cases this
   have P:=HV l[i] u (wr.alloc (.cells #[.int .i64 sort,.int .i64 ty,.int .i64 size,.bool quiet,.int .i64 vk,.int .i64 vn,.string (aa vs),.int .i64 place,.string (aa head),.pointer fp,.slice xo xn xc] 210)) FB O ax args co cn cc K J I #[.int .i64 sort,.int .i64 ty,.int .i64 size,.bool quiet,.int .i64 vk,.int .i64 vn,.string (aa vs),.int .i64 place,.string (aa head),.pointer fp,.slice xo xn xc] F ((hF.ag M).ag (ae wr _)) ((hx.ag M).ag (ae wr _));have k:Hid ((if u=(3,m,[])then some u else JO (tY fns f N ax args) (3,m,[]) (if u.1=0 then u else d) (l.drop (i+1)))=some r):=by
    have:=H.out;rw[JO,F]at this;exact this
   clear o F hx Y hF hv H;obtain⟨R,x,cs⟩:=u;by_cases j:(R,x,cs)=((3,m,[]):aj)
   ·have HR:Hid (r=(3,m,[])):=by have:=k.out;rw[if_pos j]at this;rw[Hid,<-j];exact(Option.some.inj this).symm
    cases j;have hT:(aa ([]:Bs)).toList= []:=au [];clear k
    go_wp2_with(go_at_call 126;refine P.mono ?_;rintro e w2 ⟨rfl,hb2⟩;have b:Below wr.heap.size wr w2:=(ae wr _).trans (hb2.mono (by simp[size_alloc]));have c:=b.size;have Z:=lt_of_lt_of_le b0 c;have p1:=lt_of_lt_of_le b1 c;have V:=lt_of_lt_of_le b3 c;have D:=lt_of_lt_of_le b4 c;obtain⟨⟨G,r1,r2⟩,q,s,t⟩:=aQ ((b.block _ b3).trans E);obtain⟨⟨U,l1,l2⟩,A,B,C⟩:=aQ ((b.block _ b4).trans n);obtain⟨⟨s0,s1,s2⟩,_⟩:=aQ ((b.block _ b1).trans L))
    have B2:Below w.heap.size w w2:=M.trans (b.mono M.size);refine bodyPost_ret (v:=.tuple #[.agg #[.int .i64 3,.int .i64 m,.string (aa [])],.int .i64 0]) (by simp[results,Tryz.results297,go_sem,G,r1,r2,V]) rfl ⟨by rw[HR.out], ?_⟩;exact(aH B2 (by omega) _ _ _).alloc (by simp only[size_setCell];exact B2.size) _
   ·rw[if_neg j]at k;by_cases X:R=0
    ·have Q:Hid (JO (tY fns f N ax args) (3,m,[]) (R,x,cs) (l.drop (i+1))=some r):=by have:=k.out;rw[if_pos X]at this;exact this
     subst X;clear k
     go_wp2_with(first
      |(go_at_call 126;refine P.mono ?_;rintro e w2 ⟨rfl,hb2⟩;have b:Below wr.heap.size wr w2:=(ae wr _).trans (hb2.mono (by simp[size_alloc]));have c:=b.size;have Z:=lt_of_lt_of_le b0 c;have p1:=lt_of_lt_of_le b1 c;have V:=lt_of_lt_of_le b3 c;have D:=lt_of_lt_of_le b4 c;obtain⟨⟨G,r1,r2⟩,q,s,t⟩:=aQ ((b.block _ b3).trans E);obtain⟨⟨U,l1,l2⟩,A,B,C⟩:=aQ ((b.block _ b4).trans n);obtain⟨⟨s0,s1,s2⟩,_⟩:=aQ ((b.block _ b1).trans L))
      |(go_at_call 196;refine(mE _ _ _ _).mono ?_;rintro e w3 ⟨rfl,rfl⟩))
     go_roundw
     case rel=>exact⟨i+1,(0,x,cs),by omega,by go_num,(Fb _ _ _ _ (by simp only[size_setCell];exact D)).trans (mH ((b.block _ b4).trans n) _ _ _),Q,((aH (y.trans (b.mono (by omega))) (Nat.le_refl _) _ _ _).alloc (by simp only[size_setCell];omega) _).alloc (by simp only[size_alloc,size_setCell];omega) _⟩
     case measure=>simp[intOf];omega
    ·have Q:Hid (JO (tY fns f N ax args) (3,m,[]) d (l.drop (i+1))=some r):=by have:=k.out;rw[if_neg X]at this;exact this
     clear k;by_cases h3:R=3
     ·subst h3;by_cases hn:x=m
      ·subst hn;have a3:¬(aa cs).toList= []:=λe=>j (by rw[au]at e;rw[e]);clear j
       go_wp2_with(first
        |(go_at_call 126;refine P.mono ?_;rintro e w2 ⟨rfl,hb2⟩;have b:Below wr.heap.size wr w2:=(ae wr _).trans (hb2.mono (by simp[size_alloc]));have c:=b.size;have Z:=lt_of_lt_of_le b0 c;have p1:=lt_of_lt_of_le b1 c;have V:=lt_of_lt_of_le b3 c;have D:=lt_of_lt_of_le b4 c;obtain⟨⟨G,r1,r2⟩,q,s,t⟩:=aQ ((b.block _ b3).trans E);obtain⟨⟨U,l1,l2⟩,A,B,C⟩:=aQ ((b.block _ b4).trans n);obtain⟨⟨s0,s1,s2⟩,_⟩:=aQ ((b.block _ b1).trans L))
        |(go_at_call 196;refine(mE _ _ _ _).mono ?_;rintro e w3 ⟨rfl,rfl⟩))
       go_roundw
       case rel=>exact⟨i+1,d,by omega,by go_num,(Fb w2 _ _ _ D).trans ((b.block _ b4).trans n),Q,((y.trans (b.mono (by omega))).alloc (by omega) _).alloc (by simp[size_alloc];omega) _⟩
       case measure=>simp[intOf];omega
      ·clear j
       go_wp2_with(first
        |(go_at_call 126;refine P.mono ?_;rintro e w2 ⟨rfl,hb2⟩;have b:Below wr.heap.size wr w2:=(ae wr _).trans (hb2.mono (by simp[size_alloc]));have c:=b.size;have Z:=lt_of_lt_of_le b0 c;have p1:=lt_of_lt_of_le b1 c;have V:=lt_of_lt_of_le b3 c;have D:=lt_of_lt_of_le b4 c;obtain⟨⟨G,r1,r2⟩,q,s,t⟩:=aQ ((b.block _ b3).trans E);obtain⟨⟨U,l1,l2⟩,A,B,C⟩:=aQ ((b.block _ b4).trans n);obtain⟨⟨s0,s1,s2⟩,_⟩:=aQ ((b.block _ b1).trans L))
        |(go_at_call 196;refine(mE _ _ _ _).mono ?_;rintro e w3 ⟨rfl,rfl⟩))
       go_roundw
       case rel=>exact⟨i+1,d,by omega,by go_num,(Fb w2 _ _ _ D).trans ((b.block _ b4).trans n),Q,((y.trans (b.mono (by omega))).alloc (by omega) _).alloc (by simp[size_alloc];omega) _⟩
       case measure=>simp[intOf];omega
     ·have a0:(R==0)=false:=by simpa using X
      clear j
      go_wp2_with(first
       |(go_at_call 126;refine P.mono ?_;rintro e w2 ⟨rfl,hb2⟩;have b:Below wr.heap.size wr w2:=(ae wr _).trans (hb2.mono (by simp[size_alloc]));have c:=b.size;have Z:=lt_of_lt_of_le b0 c;have p1:=lt_of_lt_of_le b1 c;have V:=lt_of_lt_of_le b3 c;have D:=lt_of_lt_of_le b4 c;obtain⟨⟨G,r1,r2⟩,q,s,t⟩:=aQ ((b.block _ b3).trans E);obtain⟨⟨U,l1,l2⟩,A,B,C⟩:=aQ ((b.block _ b4).trans n);obtain⟨⟨s0,s1,s2⟩,_⟩:=aQ ((b.block _ b1).trans L))
       |(go_at_call 196;refine(mE _ _ _ _).mono ?_;rw[a0];rintro e w3 ⟨rfl,rfl⟩))
      go_roundw
      case rel=>exact⟨i+1,d,by omega,by go_num,(Fb w2 _ _ _ D).trans ((b.block _ b4).trans n),Q,((y.trans (b.mono (by omega))).alloc (by omega) _).alloc (by simp[size_alloc];omega) _⟩
      case measure=>simp[intOf];omega
  ·have HR:Hid (r=d):=by
    have:=H.out;rw[List.drop_of_length_le (by omega),JO]at this;exact(Option.some.inj this).symm
   obtain⟨⟨U,l1,l2⟩,_⟩:=aQ n;obtain⟨⟨G,r1,r2⟩,q,s,t⟩:=aQ E;clear H n E L HV Y hF hv
   go_wp2_with fail
   refine bodyPost_ret (v:=.tuple #[.agg #[.int .i64 d.1,.int .i64 d.2.1,.string (aa d.2.2)],.int .i64 0]) (by simp[results,Tryz.results297,go_sem,G,r1,r2]) rfl ⟨by rw[HR.out], ?_⟩;exact aH M (by omega) _ _ _
theorem DZ{w w2:World}{a c d:Obj}{b:Obj}(h:Below ((((w.alloc a).alloc b).alloc c).alloc d).heap.size ((((w.alloc a).alloc b).alloc c).alloc d) w2):Below w.heap.size w w2/\w2.heap[w.heap.size+1]? =some b/\w.heap.size+1<w2.heap.size:=by
 have e:=h.size;simp only[size_alloc]at e;refine⟨(BO w a b c d).trans (h.mono (by simp only[size_alloc];omega)),(h.block _ (by simp only[size_alloc];omega)).trans ?_,by omega⟩;have:=heap_alloc_new (w.alloc a) b;rw[size_alloc]at this;exact(Fb _ _ _ _ (by simp only[size_alloc];omega)).trans this
theorem QG(fns:List Fn)(a:Bs)(N:Nat)(o:ru fns a N)(w:World)(l:List Nat)(g:Nat)(ax args:List aj)(co:Option Addr)(cn cc:Nat)(f:Option Addr)(d c:Nat)
  (hF:xC w l fns a g (.slice co cn cc) (.slice f d c) ax args) (k:Option Addr) (j i:Nat) (h:List Ex) (p:lH w l (.slice k j i) h) (B:h.length<=1000) (r:aj) (s:JO (tY fns a N ax args) (aV false) (aV true) h=some r):
  Calls prog 249 #[.agg #[.pointer (some ⟨g,0,none⟩),.slice co cn cc,.slice f d c],.slice k j i] w λe w'=>fA w r e w':=by
 have A:=az w (.cells #[.pointer (some ⟨g,0,none⟩),.slice co cn cc,.slice f d c] 312) (aI 0 0 ⟨#[]⟩);have z:∀x:World,Below w.heap.size w x->Calls prog 297 #[.agg #[.pointer (some ⟨g,0,none⟩),.slice co cn cc,.slice f d c],.agg #[.int .i64 3,.int .i64 0,.string ⟨#[]⟩],.agg #[.int .i64 3,.int .i64 1,.string ⟨#[]⟩],.slice k j i] x λe w'=>fA x r e w':=
  λx t=>Hf fns a N o x l g ax args co cn cc f d c (hF.ag t) k j i h (p.ag t) B 0 (aV true) r s
 have y:=λx:World=>bH true x;have m:=λx:World=>bH false x;clear hF p o s;go_enter Tryz.func249,Tryz.ntmps249;go_upto_region 1 with fail
 go_region_with(first
  |(go_at_call 137;first
    |(refine(y _).mono ?_;rintro e w2 ⟨rfl,rfl⟩)
    |(refine(m _).mono ?_;rintro e w2 ⟨rfl,rfl⟩))
  |(go_at_call 297;refine(z _ ?_).mono ?_;exact(BO w _ _ _ _).drew;rintro e w2 ⟨rfl,b⟩;replace b:=jT b;obtain⟨u,n,q⟩:=DZ b;obtain⟨⟨C,r1,r2⟩,D,E,F⟩:=aQ n))
 all_goals(go_wp2_with fail)
 all_goals
  refine bodyPost_ret (v:=.tuple #[.agg #[.int .i64 r.1,.int .i64 r.2.1,.string (aa r.2.2)],.int .i64 0]) (by simp[results,Tryz.results249,go_sem,C,r1,r2]) rfl ⟨rfl, ?_⟩;exact aH u (by omega) _ _ _
theorem TI(fns:List Fn)(a:Bs)(N:Nat)(o:ru fns a N)(w:World)(l:List Nat)(g:Nat)(ax args:List aj)(co:Option Addr)(cn cc:Nat)(f:Option Addr)(d c:Nat)
  (hF:xC w l fns a g (.slice co cn cc) (.slice f d c) ax args) (k:Option Addr) (j i:Nat) (h:List Ex) (p:lH w l (.slice k j i) h) (B:h.length<=1000) (r:aj) (s:JO (tY fns a N ax args) (aV true) (aV false) h=some r):
  Calls prog 250 #[.agg #[.pointer (some ⟨g,0,none⟩),.slice co cn cc,.slice f d c],.slice k j i] w λe w'=>fA w r e w':=by
 have A:=az w (.cells #[.pointer (some ⟨g,0,none⟩),.slice co cn cc,.slice f d c] 312) (aI 0 0 ⟨#[]⟩);have z:∀x:World,Below w.heap.size w x->Calls prog 297 #[.agg #[.pointer (some ⟨g,0,none⟩),.slice co cn cc,.slice f d c],.agg #[.int .i64 3,.int .i64 1,.string ⟨#[]⟩],.agg #[.int .i64 3,.int .i64 0,.string ⟨#[]⟩],.slice k j i] x λe w'=>fA x r e w':=
  λx t=>Hf fns a N o x l g ax args co cn cc f d c (hF.ag t) k j i h (p.ag t) B 1 (aV false) r s
 have y:=λx:World=>bH true x;have m:=λx:World=>bH false x;clear hF p o s;go_enter Tryz.func250,Tryz.ntmps250;go_upto_region 1 with fail
 go_region_with(first
  |(go_at_call 137;first
    |(refine(y _).mono ?_;rintro e w2 ⟨rfl,rfl⟩)
    |(refine(m _).mono ?_;rintro e w2 ⟨rfl,rfl⟩))
  |(go_at_call 297;refine(z _ ?_).mono ?_;exact(BO w _ _ _ _).drew;rintro e w2 ⟨rfl,b⟩;replace b:=jT b;obtain⟨u,n,q⟩:=DZ b;obtain⟨⟨C,r1,r2⟩,D,E,F⟩:=aQ n))
 all_goals(go_wp2_with fail)
 all_goals
  refine bodyPost_ret (v:=.tuple #[.agg #[.int .i64 r.1,.int .i64 r.2.1,.string (aa r.2.2)],.int .i64 0]) (by simp[results,Tryz.results250,go_sem,C,r1,r2]) rfl ⟨rfl, ?_⟩;exact aH u (by omega) _ _ _
def VZ(w:World)(wb:Nat)(user:Bs)(m:Nat):Prop:=∃no nc,w.heap[wb]? =some (.cells #[.string (aa user),.slice no m nc] 221 (0,0))
def Kp(q:Bool)(wb:Nat)(user:Bs)(m:Nat)(w w':World):Prop:=Below wb w w'/\(∀g,g<w.heap.size->g≠wb->w'.heap[g]? =w.heap[g]?)/\(q=true->w'.heap[wb]? =w.heap[wb]?)/\(q=false->VZ w' wb user m)
theorem Kp.size{q:Bool}{b:Nat}{a:Bs}{m:Nat}{w w':World}(h:Kp q b a m w w'):w.heap.size<=w'.heap.size:=h.1.size
theorem Kp.below{b:Nat}{a:Bs}{m:Nat}{w w':World}(h:Kp true b a m w w'):Below w.heap.size w w':=
 ⟨h.1.os,h.1.tape,h.1.output,h.1.size,λg c=>by
  by_cases e:g=b
  ·subst e;exact h.2.2.1 rfl
  ·exact h.2.1 g c e⟩
theorem Below.kp{b:Nat}{a:Bs}{m:Nat}{w w':World}(h:Below w.heap.size w w')(d:b<w.heap.size):Kp true b a m w w':=
 ⟨h.mono (by omega),λg c _=>h.block g c,λ_=>h.block b d,λe=>by cases e⟩
theorem Kp.pre{q:Bool}{b:Nat}{a:Bs}{m:Nat}{w x w':World}(hb:Below w.heap.size w x)(f:b<w.heap.size)(h:Kp q b a m x w'):Kp q b a m w w':=by
 have i:=hb.size;exact⟨(hb.mono (by omega)).trans h.1,λg d c=>(h.2.1 g (by omega) c).trans (hb.block g d),λe=>(h.2.2.1 e).trans (hb.block b f),h.2.2.2⟩
theorem Kp.kF{q:Bool}{f:Nat}{a:Bs}{m:Nat}{w w':World}(h:Kp q f a m w w')(n:f<w.heap.size){b:Nat}(hb:w.heap.size<=b)(a0 a1 a2:Value):Kp q f a m w (((w'.setCell ⟨b,0,none⟩ a0).setCell ⟨b,1,none⟩ a1).setCell ⟨b,2,none⟩ a2):=by
 have c:∀g,g≠b->(((w'.setCell ⟨b,0,none⟩ a0).setCell ⟨b,1,none⟩ a1).setCell ⟨b,2,none⟩ a2).heap[g]? =w'.heap[g]? :=λg d=>by
  rw[Below.heap_setCell _ _ _ _ d,Below.heap_setCell _ _ _ _ d,Below.heap_setCell _ _ _ _ d]
 exact⟨aH h.1 (by omega) _ _ _,λg d i=>(c g (by omega)).trans (h.2.1 g d i),λe=>(c f (by omega)).trans (h.2.2.1 e),λe=>by
  obtain⟨l,k,j⟩:=h.2.2.2 e;exact⟨l,k,(c f (by omega)).trans j⟩⟩
def pY(q:Bool)(wb:Nat)(user:Bs)(m:Nat)(v:aj)(w:World)(e:Ending)(w':World):Prop:=e=.returned (.tuple #[.agg #[.int .i64 v.1,.int .i64 v.2.1,.string (aa v.2.2)],.int .i64 0])/\Kp q wb user m w w'
theorem Ik(q:Bool)(m:Nat)(C:Bs)(w:World)(J:Nat)(R:J<w.heap.size)(co:Option Addr)(cn cc:Nat)(W:Option Addr)(V U:Nat)
  {sort ty size:Int} {quiet:Bool} {vk vn:Int} {vs:Bs} {place:Int} {head:Bs} {fp xo:Option Addr} {xn xc:Nat} {l A k:Int} {d:Bool} {D F:Int} {H:Bs} {a:Int} {i:Bs} {u O:Option Addr} {M K:Nat} {n B nI:Int} {f:Bool} {E G:Int} {I:Bs} {c:Int} {j:Bs} {y P:Option Addr} {N L:Nat} (v r:aj)
  (HC:∀x:World,Below w.heap.size w x->Calls prog 126 #[.agg #[.pointer (some ⟨J,0,none⟩),.slice co cn cc,.slice W V U],.agg (Dz sort ty size quiet vk vn vs place head fp xo xn xc)] x λe w'=>fA x v e w')
  (HT:v=aV true->∀x:World,Below w.heap.size w x->Calls prog 126 #[.agg #[.pointer (some ⟨J,0,none⟩),.slice co cn cc,.slice W V U],.agg (Dz l A k d D F H a i u O M K)] x λe w'=>pY q J C m r x e w')
  (HE:v≠aV true->∀x:World,Below w.heap.size w x->Calls prog 126 #[.agg #[.pointer (some ⟨J,0,none⟩),.slice co cn cc,.slice W V U],.agg (Dz n B nI f E G I c j y P N L)] x λe w'=>pY q J C m r x e w'):
  Calls prog 251 #[.agg #[.pointer (some ⟨J,0,none⟩),.slice co cn cc,.slice W V U],.agg (Dz sort ty size quiet vk vn vs place head fp xo xn xc),.agg (Dz l A k d D F H a i u O M K),.agg (Dz n B nI f E G I c j y P N L)] w λe w'=>pY q J C m r w e w':=by
 have X:=NN w (.cells #[.pointer (some ⟨J,0,none⟩),.slice co cn cc,.slice W V U] 312) (.cells (Dz sort ty size quiet vk vn vs place head fp xo xn xc) 210) (.cells (Dz l A k d D F H a i u O M K) 210) (.cells (Dz n B nI f E G I c j y P N L) 210) (aI 0 0 ⟨#[]⟩);obtain⟨k0,_,k2,k3,k4⟩:=UR w (.cells #[.pointer (some ⟨J,0,none⟩),.slice co cn cc,.slice W V U] 312) (.cells (Dz sort ty size quiet vk vn vs place head fp xo xn xc) 210) (.cells (Dz l A k d D F H a i u O M K) 210) (.cells (Dz n B nI f E G I c j y P N L) 210) (aI 0 0 ⟨#[]⟩);have T:=HC _ X;go_enter Tryz.func251,Tryz.ntmps251;go_upto_region 4 with(go_at_call 126;refine T.mono ?_;rintro e w2 ⟨rfl,hb2⟩)
 have a0:=hb2.size;simp only[size_alloc]at a0;have B2:Below w.heap.size w w2:=X.trans (hb2.mono (by simp[size_alloc];omega));obtain⟨Y,S,s⟩:=v;go_cut [24] (λa5 wx=>(∃b:Bool,a5=.bool b/\nY b (Y,S,s))/\Hid (Below w2.heap.size w2 wx))
 case first=>
  by_cases h3:Y=3
  ·subst h3;by_cases h1:S=1
   ·subst h1;by_cases he:(aa s).toList= []
    ·have t:nY true (3,1,s):=by
      rw[au]at he;rw[nY,he];exact⟨λ_=>rfl,λ_=>rfl⟩
     go_region_with(go_at_call 137;refine(bH _ _).mono ?_;rintro e w3 ⟨rfl,rfl⟩);all_goals(go_wp2_with fail;go_meet)
     all_goals exact⟨⟨true,rfl,t⟩,(show Below w2.heap.size w2 _ from by first|exact(az w2 _ _).drew|exact az w2 _ _)⟩
    ·have t:nY false (3,1,s):=by
      refine⟨λh=>(by cases h),λh=> ?_⟩;rw[au]at he;cases h;exact absurd rfl he
     go_region_with(go_at_call 137;refine(bH _ _).mono ?_;rintro e w3 ⟨rfl,rfl⟩);all_goals(go_wp2_with fail;go_meet)
     all_goals exact⟨⟨false,rfl,t⟩,(show Below w2.heap.size w2 _ from by first|exact(az w2 _ _).drew|exact az w2 _ _)⟩
   ·have t:nY false (3,S,s):=⟨λh=>(by cases h),λh=>absurd (congrArg (λp:aj=>p.2.1) h) h1⟩;go_region_with(go_at_call 137;refine(bH _ _).mono ?_;rintro e w3 ⟨rfl,rfl⟩);all_goals(go_wp2_with fail;go_meet)
    all_goals exact⟨⟨false,rfl,t⟩,(show Below w2.heap.size w2 _ from by first|exact(az w2 _ _).drew|exact az w2 _ _)⟩
  ·have t:nY false (Y,S,s):=⟨λh=>(by cases h),λh=>absurd (congrArg (λp:aj=>p.1) h) h3⟩;go_region_with(go_at_call 137;refine(bH _ _).mono ?_;rintro e w3 ⟨rfl,rfl⟩);all_goals(go_wp2_with fail;go_meet)
   all_goals exact⟨⟨false,rfl,t⟩,(show Below w2.heap.size w2 _ from by first|exact(az w2 _ _).drew|exact az w2 _ _)⟩
 case rest=>
  obtain⟨⟨b,rfl,t⟩,HW⟩:=hcut;have B3:Below w.heap.size w wc:=B2.trans (HW.out.mono B2.size);have Z:∀(g:Nat) {o:Obj},g<w.heap.size+5->(((((w.alloc (.cells #[.pointer (some ⟨J,0,none⟩),.slice co cn cc,.slice W V U] 312)).alloc (.cells (Dz sort ty size quiet vk vn vs place head fp xo xn xc) 210)).alloc (.cells (Dz l A k d D F H a i u O M K) 210)).alloc (.cells (Dz n B nI f E G I c j y P N L) 210)).alloc (aI 0 0 ⟨#[]⟩)).heap[g]? =some o->wc.heap[g]? =some o:=
   λg o hg h=>(HW.out.block g (by omega)).trans ((hb2.block g (by simp only[size_alloc];omega)).trans h)
  obtain⟨⟨f0,f1,f2⟩,_⟩:=aQ (Z w.heap.size (by omega) k0);have z:=Z (w.heap.size+4) (by omega) k4;have b0:=B3.size;have Q:w.heap.size+4<wc.heap.size:=ai z;have a7:w.heap.size<wc.heap.size:=by omega
  have a8:w.heap.size+2<wc.heap.size:=by omega
  have a9:w.heap.size+3<wc.heap.size:=by omega
  clear hb2 a0 X HW B2
  cases b with
  |true=>
   have HN:=HT (t.mp rfl) wc B3;obtain⟨⟨y0,y1,y2,y3,y4,y5,y6,y7,y8,y9,a6⟩,_⟩:=bz (Z (w.heap.size+2) (by omega) k2);clear t HT HE HC T Z
   go_wp2_with(go_at_call 126;refine HN.mono ?_)
   clear HN;rintro e w4 ⟨rfl,hk4⟩;have hk:=Kp.pre B3 R hk4;obtain⟨⟨r0,r1,r2⟩,a2,a3,a4⟩:=aQ ((hk4.2.1 _ Q (by omega)).trans z);have a1:w.heap.size+4<w4.heap.size:=lt_of_lt_of_le Q hk4.size;clear hk4 z
   go_wp2_with fail
   refine bodyPost_ret (v:=.tuple #[.agg #[.int .i64 r.1,.int .i64 r.2.1,.string (aa r.2.2)],.int .i64 0]) (by simp[results,Tryz.results251,go_sem,r0,r1,r2]) rfl ⟨rfl, ?_⟩;exact hk.kF R (by omega) _ _ _
  |false=>
   have HN:=HE (λh=>Bool.false_ne_true (t.mpr h)) wc B3;obtain⟨⟨y0,y1,y2,y3,y4,y5,y6,y7,y8,y9,a6⟩,_⟩:=bz (Z (w.heap.size+3) (by omega) k3);clear t HT HE HC T Z
   go_wp2_with(go_at_call 126;refine HN.mono ?_)
   clear HN;rintro e w4 ⟨rfl,hk4⟩;have hk:=Kp.pre B3 R hk4;obtain⟨⟨r0,r1,r2⟩,a2,a3,a4⟩:=aQ ((hk4.2.1 _ Q (by omega)).trans z);have a1:w.heap.size+4<w4.heap.size:=lt_of_lt_of_le Q hk4.size;clear hk4 z
   go_wp2_with fail
   refine bodyPost_ret (v:=.tuple #[.agg #[.int .i64 r.1,.int .i64 r.2.1,.string (aa r.2.2)],.int .i64 0]) (by simp[results,Tryz.results251,go_sem,r0,r1,r2]) rfl ⟨rfl, ?_⟩;exact hk.kF R (by omega) _ _ _
end Go.Proofs.YtdifpeaklamhnaaGreatDoor
