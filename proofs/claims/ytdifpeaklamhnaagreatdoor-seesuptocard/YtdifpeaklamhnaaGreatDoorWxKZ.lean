import Derived.Test.YtdifpeaklamhnaaGreatDoorWxDZ
set_option linter.unusedVariables false
set_option linter.unusedSimpArgs false
set_option maxRecDepth 100000
set_option maxHeartbeats 0
namespace Go.Proofs.YtdifpeaklamhnaaGreatDoor
open Go.Proofs.Tryz
open Go.RowKit
open World (size_setCell size_alloc size_drew)
open Nat (le_refl lt_of_lt_of_le)
theorem Ee(w:World)(v:Value)(c:aj)(h:aO w v [c]):
  Calls prog 254 #[.string (aa oH),v] w λe w'=>fA w (aV (c.1==0)) e w':=by
 obtain⟨b,o,cap,rfl,hb,k⟩:=qG h;obtain⟨l,s⟩:=VR w (aI 0 0 ⟨#[]⟩);obtain⟨p,q,r⟩:=k _ l;obtain⟨j,cn,cs⟩:=c;obtain⟨d,a⟩:∃d,d=(j==0):=⟨_,rfl⟩;simp only at p q r ⊢;rw[<-a];have g:=λx:World=>mE j cn (aa cs) x;rw[<-a]at g;have n:aa oH=⟨#[105,115,110,117,108,108]⟩:=rfl;rw[n];clear k h a;obtain⟨z,f⟩:∃z,z=gz d:=⟨_,rfl⟩;have i:=λx:World=>bH d x;have m:Hid (Value.agg #[.int .i64 (aV d).1,.int .i64 (aV d).2.1,.string (aa (aV d).2.2)]=.agg #[.int .i64 3,.int .i64 z,.string ⟨#[]⟩]):=by rw[f];rfl
 rw[<-f]at i;clear f;go_enter Tryz.func254,Tryz.ntmps254
 go_wp2_with(first
  |(go_at_call 196;refine(g _).mono ?_;rintro e w2 ⟨rfl,rfl⟩)
  |(go_at_call 137;refine(i _).mono ?_;rintro e w2 ⟨rfl,rfl⟩))
 refine bodyPost_ret (v:=.tuple #[.agg #[.int .i64 3,.int .i64 z,.string ⟨#[]⟩],.int .i64 0]) (by simp[results,Tryz.results254,go_sem]) rfl ⟨by rw[m.out], ?_⟩;exact dA w _ _ _
theorem LD{h:Bs}(a:h=zV\/h=zU\/h= [61]\/h= [60]\/h= [60,61]):aa h=⟨#[110,111,116]⟩\/aa h=⟨#[108,101,110]⟩\/aa h=⟨#[61]⟩\/aa h=⟨#[60]⟩\/aa h=⟨#[60,61]⟩:=by
 rcases a with rfl|rfl|rfl|rfl|rfl
 ·exact .inl rfl
 ·exact .inr (.inl rfl)
 ·exact .inr (.inr (.inl rfl))
 ·exact .inr (.inr (.inr (.inl rfl)))
 ·exact .inr (.inr (.inr (.inr rfl)))
theorem yw(w:World)(v:Value)(cs:List aj)(h:aO w v cs)(d:bF cs=true)(a:Bs)(c:a=zV\/a=zU\/a= [61]\/a= [60]\/a= [60,61]):
  Calls prog 254 #[.string (aa a),v] w λe w'=>fA w dm e w':=by
 have b:=fV (w.alloc (aI 0 0 ⟨#[]⟩)) v cs (h.ag (ae w _));rw[d]at b;obtain⟨m,cap,rfl,_,_⟩:=h;clear d;rcases LD c with e1|e1|e1|e1|e1<;>rw[e1]<;>clear e1 c
 all_goals
  go_enter Tryz.func254,Tryz.ntmps254
  go_wp2_with(go_at_call 299;refine b.mono ?_;rintro e w2 ⟨rfl,hb2⟩;obtain⟨f,g,l2⟩:=sZ hb2;obtain⟨⟨i,r1,r2⟩,j,k,l⟩:=aQ g)
  refine bodyPost_ret (v:=.tuple #[.agg #[.int .i64 0,.int .i64 0,.string ⟨#[]⟩],.int .i64 0]) (by simp[results,Tryz.results254,go_sem,i,r1,r2]) rfl ⟨rfl, ?_⟩;exact aH f (le_refl _) _ _ _
theorem Ib(w:World)(v:Value)(c:aj)(h:aO w v [c])(i:c.1≠0):
  Calls prog 254 #[.string (aa zU),v] w λe w'=>fA w (1,(c.2.2.length:Int),[]) e w':=by
 have f:=fV (w.alloc (aI 0 0 ⟨#[]⟩)) v [c] (h.ag (ae w _));have j:bF [c]=false:=by simp[bF,i]
 rw[j]at f;obtain⟨b,o,cap,rfl,hb,l⟩:=qG h;obtain⟨t,cn,cs⟩:=c;have g:aa zU=⟨#[108,101,110]⟩:=rfl;have m:(aa cs).size=cs.length:=aF cs;rw[g];have d:=λx:World=>Es (cs.length:Int) x;clear j h i g;simp only;go_enter Tryz.func254,Tryz.ntmps254
 go_wp2_with(first
  |(go_at_call 299;refine f.mono ?_;rintro e w2 ⟨rfl,hb2⟩;obtain⟨a,n,l2⟩:=sZ hb2;obtain⟨⟨p,r1,r2⟩,q,r,s⟩:=aQ n;obtain⟨u,y,z⟩:=l w2 a;have k:=lt_of_lt_of_le hb a.size)
  |(go_at_call 302;refine(d _).mono ?_;rintro e A ⟨rfl,rfl⟩))
 refine bodyPost_ret (v:=.tuple #[.agg #[.int .i64 1,.int .i64 (cs.length:Int),.string ⟨#[]⟩],.int .i64 0]) (by simp[results,Tryz.results254,go_sem,p,r1,r2,l2]) rfl ⟨rfl, ?_⟩;exact(aH a (le_refl _) _ _ _).alloc (by simp only[size_setCell];exact a.size) _
theorem Ic(w:World)(v:Value)(c:aj)(h:aO w v [c])(x:c.1≠0):
  Calls prog 254 #[.string (aa zV),v] w λe w'=>fA w (xL c) e w':=by
 have m:=fV (w.alloc (aI 0 0 ⟨#[]⟩)) v [c] (h.ag (ae w _));have A:bF [c]=false:=by simp[bF,x]
 rw[A]at m;obtain⟨b,B,cap,rfl,hb,n⟩:=qG h;obtain⟨p,cn,cs⟩:=c;have u:aa zV=⟨#[110,111,116]⟩:=rfl;rw[u];clear A h u;simp only at x;by_cases z:p=3
 ·subst z;by_cases y:cn=0
  ·subst y;by_cases o:(aa cs).toList= []
   ·have f:Hid (xL (3,0,cs)=aV true):=by
     rw[au]at o;subst o;rfl
    go_enter Tryz.func254,Tryz.ntmps254;go_upto_region 14 with(go_at_call 299;refine m.mono ?_;rintro e w2 ⟨rfl,hb2⟩;obtain⟨a,i,l2⟩:=sZ hb2;obtain⟨⟨d,r1,r2⟩,j,k,l⟩:=aQ i;obtain⟨q,r,s⟩:=n w2 a;have g:=lt_of_lt_of_le hb a.size)
    go_region_with(go_at_call 137;refine(bH _ _).mono ?_;rintro e t ⟨rfl,rfl⟩);all_goals(go_wp2_with fail)
    all_goals
     refine bodyPost_ret (v:=.tuple #[.agg #[.int .i64 3,.int .i64 (gz true),.string ⟨#[]⟩],.int .i64 0]) (by first|(simp[results,Tryz.results254,go_sem,d,r1,r2,l2];done)|simp[results,Tryz.results254,go_sem,d,r1,r2,l2,gz]) rfl ⟨by rw[f.out];rfl, ?_⟩
     first
      |exact((aH a (le_refl _) _ _ _).alloc (by simp only[size_setCell];exact a.size) _).alloc (by simp only[size_alloc,size_setCell];have:=a.size;omega) _
      |exact(((aH a (le_refl _) _ _ _).alloc (by simp only[size_setCell];exact a.size) _).alloc (by simp only[size_alloc,size_setCell];have:=a.size;omega) _).drew
   ·have f:Hid (xL (3,0,cs)=aV false):=by
     rw[au]at o;have:(((3,0,cs):aj)==aV false)=false:=by simp[aV,gz,o]
     rw[Hid,xL,this]
    go_enter Tryz.func254,Tryz.ntmps254;go_upto_region 14 with(go_at_call 299;refine m.mono ?_;rintro e w2 ⟨rfl,hb2⟩;obtain⟨a,i,l2⟩:=sZ hb2;obtain⟨⟨d,r1,r2⟩,j,k,l⟩:=aQ i;obtain⟨q,r,s⟩:=n w2 a;have g:=lt_of_lt_of_le hb a.size)
    go_region_with(go_at_call 137;refine(bH _ _).mono ?_;rintro e t ⟨rfl,rfl⟩);all_goals(go_wp2_with fail)
    all_goals
     refine bodyPost_ret (v:=.tuple #[.agg #[.int .i64 3,.int .i64 (gz false),.string ⟨#[]⟩],.int .i64 0]) (by first|(simp[results,Tryz.results254,go_sem,d,r1,r2,l2];done)|simp[results,Tryz.results254,go_sem,d,r1,r2,l2,gz]) rfl ⟨by rw[f.out];rfl, ?_⟩
     first
      |exact((aH a (le_refl _) _ _ _).alloc (by simp only[size_setCell];exact a.size) _).alloc (by simp only[size_alloc,size_setCell];have:=a.size;omega) _
      |exact(((aH a (le_refl _) _ _ _).alloc (by simp only[size_setCell];exact a.size) _).alloc (by simp only[size_alloc,size_setCell];have:=a.size;omega) _).drew
  ·have f:Hid (xL (3,cn,cs)=aV false):=by
    have:(((3,cn,cs):aj)==aV false)=false:=by simp[aV,gz,y]
    rw[Hid,xL,this]
   go_enter Tryz.func254,Tryz.ntmps254;go_upto_region 14 with(go_at_call 299;refine m.mono ?_;rintro e w2 ⟨rfl,hb2⟩;obtain⟨a,i,l2⟩:=sZ hb2;obtain⟨⟨d,r1,r2⟩,j,k,l⟩:=aQ i;obtain⟨q,r,s⟩:=n w2 a;have g:=lt_of_lt_of_le hb a.size)
   go_region_with(go_at_call 137;refine(bH _ _).mono ?_;rintro e t ⟨rfl,rfl⟩);all_goals(go_wp2_with fail)
   all_goals
    refine bodyPost_ret (v:=.tuple #[.agg #[.int .i64 3,.int .i64 (gz false),.string ⟨#[]⟩],.int .i64 0]) (by first|(simp[results,Tryz.results254,go_sem,d,r1,r2,l2];done)|simp[results,Tryz.results254,go_sem,d,r1,r2,l2,gz]) rfl ⟨by rw[f.out];rfl, ?_⟩
    first
     |exact((aH a (le_refl _) _ _ _).alloc (by simp only[size_setCell];exact a.size) _).alloc (by simp only[size_alloc,size_setCell];have:=a.size;omega) _
     |exact(((aH a (le_refl _) _ _ _).alloc (by simp only[size_setCell];exact a.size) _).alloc (by simp only[size_alloc,size_setCell];have:=a.size;omega) _).drew
 ·have f:Hid (xL (p,cn,cs)=aV false):=by
   have:(((p,cn,cs):aj)==aV false)=false:=by simp[aV,gz,z]
   rw[Hid,xL,this]
  go_enter Tryz.func254,Tryz.ntmps254;go_upto_region 14 with(go_at_call 299;refine m.mono ?_;rintro e w2 ⟨rfl,hb2⟩;obtain⟨a,i,l2⟩:=sZ hb2;obtain⟨⟨d,r1,r2⟩,j,k,l⟩:=aQ i;obtain⟨q,r,s⟩:=n w2 a;have g:=lt_of_lt_of_le hb a.size)
  go_region_with(go_at_call 137;refine(bH _ _).mono ?_;rintro e t ⟨rfl,rfl⟩);all_goals(go_wp2_with fail)
  all_goals
   refine bodyPost_ret (v:=.tuple #[.agg #[.int .i64 3,.int .i64 (gz false),.string ⟨#[]⟩],.int .i64 0]) (by first|(simp[results,Tryz.results254,go_sem,d,r1,r2,l2];done)|simp[results,Tryz.results254,go_sem,d,r1,r2,l2,gz]) rfl ⟨by rw[f.out];rfl, ?_⟩
   first
    |exact((aH a (le_refl _) _ _ _).alloc (by simp only[size_setCell];exact a.size) _).alloc (by simp only[size_alloc,size_setCell];have:=a.size;omega) _
    |exact(((aH a (le_refl _) _ _ _).alloc (by simp only[size_setCell];exact a.size) _).alloc (by simp only[size_alloc,size_setCell];have:=a.size;omega) _).drew
theorem Ia(w:World)(v:Value)(a c:aj)(h:aO w v [a,c])(o:a.1≠0)(j:c.1≠0)(f:Bs)(n:f= [61]\/f= [60]\/f= [60,61]):
  Calls prog 254 #[.string (aa f),v] w λe w'=>fA w (uy f (sK a c)) e w':=by
 have l:=fV (w.alloc (aI 0 0 ⟨#[]⟩)) v [a,c] (h.ag (ae w _));have p:bF [a,c]=false:=by simp[bF,o,j]
 rw[p]at l;obtain⟨b,D,cap,rfl,hb,m⟩:=Et h;have k:=λx:World=>EE f n a c x;obtain⟨s,y,u⟩:=a;obtain⟨z,cn,A⟩:=c;simp only at k m;obtain⟨r,q⟩:∃r,r=uy f (sK (s,y,u) (z,cn,A)):=⟨_,rfl⟩;rw[<-q]at k ⊢;clear p h q o j;have i:aa f=⟨#[61]⟩\/aa f=⟨#[60]⟩\/aa f=⟨#[60,61]⟩:=by
  rcases n with rfl|rfl|rfl
  ·exact .inl rfl
  ·exact .inr (.inl rfl)
  ·exact .inr (.inr rfl)
 clear n;rcases i with i|i|i<;>rw[i]at k ⊢ <;>clear i
 all_goals
  go_enter Tryz.func254,Tryz.ntmps254;go_upto_region 17 with(go_at_call 299;refine l.mono ?_;rintro e w2 ⟨rfl,hb2⟩;obtain⟨g,C,l2⟩:=sZ hb2;obtain⟨⟨L,M,N⟩,I,J,K⟩:=m w2 g;have B:=lt_of_lt_of_le hb g.size)
  clear l m hb2;go_region_with(go_at_call 303;refine(k _).mono ?_;rintro e O ⟨⟨t,ht,rfl⟩,d⟩;replace d:=jT d;obtain⟨⟨E,r1,r2⟩,F,G,H⟩:=aQ ((d.block _ l2).trans C);have l3:=lt_of_lt_of_le l2 d.size);all_goals(go_wp2_with fail)
  all_goals
   refine bodyPost_ret (v:=.tuple #[.agg #[.int .i64 3,.int .i64 (gz t),.string ⟨#[]⟩],.int .i64 0]) (by simp[results,Tryz.results254,go_sem,E,r1,r2]) rfl ⟨by rw[ht];rfl, ?_⟩
   first|exact aH (g.trans (d.mono g.size)) (le_refl _) _ _ _|exact(aH (g.trans (d.mono g.size)) (le_refl _) _ _ _).drew
theorem Ld(w:World)(v:Value)(cs:List aj)(h:aO w v cs)(d:Bs)(r:aj)(b:xD d cs=some r):
  Calls prog 254 #[.string (aa d),v] w λe w'=>fA w r e w':=by
 match cs,b with
 | [],b=>cases b
 | [c],b=>
  rw[xD]at b;split at b
  ·next g=>
   rw[Ec]at b;by_cases i:d=oH
   ·subst i;rw[if_pos rfl]at b;cases b;exact Ee w v c h
   ·rw[if_neg i]at b;have l:d=zV\/d=zU\/d= [61]\/d= [60]\/d= [60,61]:=by
     rcases g with h|h|h
     ·exact absurd h i
     ·exact .inl h
     ·exact .inr (.inl h)
    by_cases f:c.1=0
    ·rw[if_pos f]at b;cases b;exact yw w v [c] h (by simp[bF,f]) d l
    ·rw[if_neg f]at b;by_cases j:d=zV
     ·subst j;rw[if_pos rfl]at b;cases b;exact Ic w v c h f
     ·rw[if_neg j]at b;by_cases k:d=zU
      ·subst k;rw[if_pos rfl]at b;cases b;exact Ib w v c h f
      ·rw[if_neg k]at b;cases b
  ·cases b
 | [a,c],b=>
  rw[xD,JY]at b;by_cases g:d= [61]\/d= [60]\/d= [60,61]
  ·rw[if_pos g]at b;by_cases f:a.1=0\/c.1=0
   ·rw[if_pos f]at b;cases b;exact yw w v [a,c] h (HY f) d (.inr (.inr g))
   ·rw[if_neg f]at b;cases b;exact Ia w v a c h (λe=>f (.inl e)) (λe=>f (.inr e)) d g
  ·rw[if_neg g]at b;cases b
 |_::_::_::_,b=>cases b
theorem Db(x:World)(b j:Nat)(a0 a1 a2:Value)(h:j≠b):(((x.setCell ⟨b,0,none⟩ a0).setCell ⟨b,1,none⟩ a1).setCell ⟨b,2,none⟩ a2).heap[j]? =x.heap[j]? :=by
 rw[Below.heap_setCell _ _ _ _ h,Below.heap_setCell _ _ _ _ h,Below.heap_setCell _ _ _ _ h]
theorem En(q:Bool)(m:Nat)(U:Bs)(w:World)(u:Nat)(e3:u<w.heap.size)(co:Option Addr)(cn cc:Nat)(Y:Option Addr)(X V:Nat)(r:aj)
  (s D n:Int) (h:Bool) (G J:Int) (M:Bs) (b:Int) (z:Option Addr) (g Z:Nat) (hg:g<w.heap.size) (e8:g≠u)
  {sort ty size:Int} {quiet:Bool} {vk vn:Int} {vs:Bs} {place:Int} {head:Bs} {fp xo:Option Addr} {xn xc:Nat} {p C l:Int} {f:Bool} {F I:Int} {L:Bs} {a:Int} {j:Bs} {y S:Option Addr} {Q O:Nat} {t E nI:Int} {i:Bool} {H K:Int} {N:Bs} {d:Int} {k:Bs} {A T:Option Addr} {R P:Nat}
  (A0:Nt w g 0 1 2 3 4 5 6 7 8 9 10 sort ty size quiet vk vn vs place head fp xo xn xc) (A1:Nt w g 11 12 13 14 15 16 17 18 19 20 21 p C l f F I L a j y S Q O) (A2:Nt w g 22 23 24 25 26 27 28 29 30 31 32 t E nI i H K N d k A T R P)
  (HC:∀x:World,Below w.heap.size w x->Calls prog 251 #[.agg #[.pointer (some ⟨u,0,none⟩),.slice co cn cc,.slice Y X V],.agg (Dz sort ty size quiet vk vn vs place head fp xo xn xc),.agg (Dz p C l f F I L a j y S Q O),.agg (Dz t E nI i H K N d k A T R P)] x λe w'=>pY q u U m r x e w'):
  Calls prog 198 #[.agg #[.pointer (some ⟨u,0,none⟩),.slice co cn cc,.slice Y X V],.agg #[.int .i64 s,.int .i64 D,.int .i64 n,.bool h,.int .i64 G,.int .i64 J,.string (aa M),.int .i64 b,.string ⟨#[105,102]⟩,.pointer z,.slice (some ⟨g,0,none⟩) 3 Z]] w λe w'=>pY q u U m r w e w':=by
 have B:=dA w (.cells #[.pointer (some ⟨u,0,none⟩),.slice co cn cc,.slice Y X V] 312) (.cells #[.int .i64 s,.int .i64 D,.int .i64 n,.bool h,.int .i64 G,.int .i64 J,.string (aa M),.int .i64 b,.string ⟨#[105,102]⟩,.pointer z,.slice (some ⟨g,0,none⟩) 3 Z] 210) (aI 0 0 ⟨#[]⟩);obtain⟨k0,k1,k2⟩:=Ll w (.cells #[.pointer (some ⟨u,0,none⟩),.slice co cn cc,.slice Y X V] 312) (.cells #[.int .i64 s,.int .i64 D,.int .i64 n,.bool h,.int .i64 G,.int .i64 J,.string (aa M),.int .i64 b,.string ⟨#[105,102]⟩,.pointer z,.slice (some ⟨g,0,none⟩) 3 Z] 210) (aI 0 0 ⟨#[]⟩);obtain⟨W,hW⟩:∃W,W=((w.alloc (.cells #[.pointer (some ⟨u,0,none⟩),.slice co cn cc,.slice Y X V] 312)).alloc (.cells #[.int .i64 s,.int .i64 D,.int .i64 n,.bool h,.int .i64 G,.int .i64 J,.string (aa M),.int .i64 b,.string ⟨#[105,102]⟩,.pointer z,.slice (some ⟨g,0,none⟩) 3 Z] 210)).alloc (aI 0 0 ⟨#[]⟩):=⟨_,rfl⟩;have g4:W.heap.size=w.heap.size+3:=by rw[hW];simp[size_alloc]
 have e4:=HC W.drew (by rw[hW];exact B.drew);go_enter Tryz.func198,Tryz.ntmps198;go_upto_region 7 with fail
 rw[<-hW]at k0 k1 k2 B ⊢;have HS:Hid (∀x:World,x.heap[w.heap.size]? =W.heap[w.heap.size]? ->x.heap[w.heap.size+1]? =W.heap[w.heap.size+1]? ->x.heap[g]? =W.heap[g]? ->x.cell? ⟨w.heap.size,0,none⟩=some (.pointer (some ⟨u,0,none⟩))/\x.cell? ⟨w.heap.size,1,none⟩=some (.slice co cn cc)/\x.cell? ⟨w.heap.size,2,none⟩=some (.slice Y X V)/\x.cell? ⟨w.heap.size+1,10,none⟩=some (.slice (some ⟨g,0,none⟩) 3 Z)/\x.cell? ⟨g,0,none⟩=some (.int .i64 sort)/\x.cell? ⟨g,1,none⟩=some (.int .i64 ty)/\x.cell? ⟨g,2,none⟩=some (.int .i64 size)/\x.cell? ⟨g,3,none⟩=some (.bool quiet)/\x.cell? ⟨g,4,none⟩=some (.int .i64 vk)/\x.cell? ⟨g,5,none⟩=some (.int .i64 vn)/\x.cell? ⟨g,6,none⟩=some (.string (aa vs))/\x.cell? ⟨g,7,none⟩=some (.int .i64 place)/\x.cell? ⟨g,8,none⟩=some (.string (aa head))/\x.cell? ⟨g,9,none⟩=some (.pointer fp)/\x.cell? ⟨g,10,none⟩=some (.slice xo xn xc)/\x.cell? ⟨g,11,none⟩=some (.int .i64 p)/\x.cell? ⟨g,12,none⟩=some (.int .i64 C)/\x.cell? ⟨g,13,none⟩=some (.int .i64 l)/\x.cell? ⟨g,14,none⟩=some (.bool f)/\x.cell? ⟨g,15,none⟩=some (.int .i64 F)/\x.cell? ⟨g,16,none⟩=some (.int .i64 I)/\x.cell? ⟨g,17,none⟩=some (.string (aa L))/\x.cell? ⟨g,18,none⟩=some (.int .i64 a)/\x.cell? ⟨g,19,none⟩=some (.string (aa j))/\x.cell? ⟨g,20,none⟩=some (.pointer y)/\x.cell? ⟨g,21,none⟩=some (.slice S Q O)/\x.cell? ⟨g,22,none⟩=some (.int .i64 t)/\x.cell? ⟨g,23,none⟩=some (.int .i64 E)/\x.cell? ⟨g,24,none⟩=some (.int .i64 nI)/\x.cell? ⟨g,25,none⟩=some (.bool i)/\x.cell? ⟨g,26,none⟩=some (.int .i64 H)/\x.cell? ⟨g,27,none⟩=some (.int .i64 K)/\x.cell? ⟨g,28,none⟩=some (.string (aa N))/\x.cell? ⟨g,29,none⟩=some (.int .i64 d)/\x.cell? ⟨g,30,none⟩=some (.string (aa k))/\x.cell? ⟨g,31,none⟩=some (.pointer A)/\x.cell? ⟨g,32,none⟩=some (.slice T R P)):=by
  intro x e9 g0 g1;have c:∀o,x.cell? ⟨g,o,none⟩=w.cell? ⟨g,o,none⟩:=λo=>
   World.cell?_of_block (w:=w) (g1.trans (B.block g hg))
  have g2:=e9.trans k0;have g3:=g0.trans k1;obtain⟨z0,z1,z2⟩:=(aQ g2).1;obtain⟨a0,a1,a2,a3,a4,a5,a6,a7,a8,a9,e5⟩:=A0;obtain⟨b0,b1,b2,b3,b4,b5,b6,b7,b8,b9,e6⟩:=A1;obtain⟨c0,c1,c2,c3,c4,c5,c6,c7,c8,c9,e7⟩:=A2;simp only[c];exact⟨z0,z1,z2,(af g3).trans rfl,a0,a1,a2,a3,a4,a5,a6,a7,a8,a9,e5,b0,b1,b2,b3,b4,b5,b6,b7,b8,b9,e6,c0,c1,c2,c3,c4,c5,c6,c7,c8,c9,e7⟩
 clear hW HC A0 A1 A2 k0 k1;have e0:w.heap.size≠u:=by omega
 have e1:w.heap.size+1≠u:=by omega
 have e2:w.heap.size+2≠u:=by omega
 have g5:g<W.heap.size:=by omega
 go_region_held2 (λx=>x.cell? ⟨w.heap.size,0,none⟩=some (.pointer (some ⟨u,0,none⟩))/\x.cell? ⟨w.heap.size,1,none⟩=some (.slice co cn cc)/\x.cell? ⟨w.heap.size,2,none⟩=some (.slice Y X V)/\x.cell? ⟨w.heap.size+1,10,none⟩=some (.slice (some ⟨g,0,none⟩) 3 Z)/\x.cell? ⟨g,0,none⟩=some (.int .i64 sort)/\x.cell? ⟨g,1,none⟩=some (.int .i64 ty)/\x.cell? ⟨g,2,none⟩=some (.int .i64 size)/\x.cell? ⟨g,3,none⟩=some (.bool quiet)/\x.cell? ⟨g,4,none⟩=some (.int .i64 vk)/\x.cell? ⟨g,5,none⟩=some (.int .i64 vn)/\x.cell? ⟨g,6,none⟩=some (.string (aa vs))/\x.cell? ⟨g,7,none⟩=some (.int .i64 place)/\x.cell? ⟨g,8,none⟩=some (.string (aa head))/\x.cell? ⟨g,9,none⟩=some (.pointer fp)/\x.cell? ⟨g,10,none⟩=some (.slice xo xn xc)/\x.cell? ⟨g,11,none⟩=some (.int .i64 p)/\x.cell? ⟨g,12,none⟩=some (.int .i64 C)/\x.cell? ⟨g,13,none⟩=some (.int .i64 l)/\x.cell? ⟨g,14,none⟩=some (.bool f)/\x.cell? ⟨g,15,none⟩=some (.int .i64 F)/\x.cell? ⟨g,16,none⟩=some (.int .i64 I)/\x.cell? ⟨g,17,none⟩=some (.string (aa L))/\x.cell? ⟨g,18,none⟩=some (.int .i64 a)/\x.cell? ⟨g,19,none⟩=some (.string (aa j))/\x.cell? ⟨g,20,none⟩=some (.pointer y)/\x.cell? ⟨g,21,none⟩=some (.slice S Q O)/\x.cell? ⟨g,22,none⟩=some (.int .i64 t)/\x.cell? ⟨g,23,none⟩=some (.int .i64 E)/\x.cell? ⟨g,24,none⟩=some (.int .i64 nI)/\x.cell? ⟨g,25,none⟩=some (.bool i)/\x.cell? ⟨g,26,none⟩=some (.int .i64 H)/\x.cell? ⟨g,27,none⟩=some (.int .i64 K)/\x.cell? ⟨g,28,none⟩=some (.string (aa N))/\x.cell? ⟨g,29,none⟩=some (.int .i64 d)/\x.cell? ⟨g,30,none⟩=some (.string (aa k))/\x.cell? ⟨g,31,none⟩=some (.pointer A)/\x.cell? ⟨g,32,none⟩=some (.slice T R P)) (first|exact HS.out _ rfl rfl rfl|exact HS.out _ K0 K1 Kg|exact HS.out _ ((Db _ _ _ _ _ _ (by omega)).trans K0) ((Db _ _ _ _ _ _ (by omega)).trans K1) ((Db _ _ _ _ _ _ (by omega)).trans Kg))
  (first
   |(go_at_call 251;refine e4.mono ?_;rintro e w3 ⟨rfl,hk3⟩;have K0:=hk3.2.1 w.heap.size (by simp only[size_drew];omega) e0;have K1:=hk3.2.1 (w.heap.size+1) (by simp only[size_drew];omega) e1;have Kg:=hk3.2.1 g (by simp only[size_drew];omega) e8;obtain⟨⟨r0,r1,r2⟩,g6,g7,g8⟩:=aQ ((hk3.2.1 (w.heap.size+2) (by simp only[size_drew];omega) e2).trans k2);have l3:w.heap.size+2<w3.heap.size:=lt_of_lt_of_le (by simp only[size_drew];omega) hk3.size))
 all_goals go_wp2_with fail
 all_goals
  refine bodyPost_ret (v:=.tuple #[.agg #[.int .i64 r.1,.int .i64 r.2.1,.string (aa r.2.2)],.int .i64 0]) (by simp[results,Tryz.results198,go_sem,r0,r1,r2]) rfl ⟨rfl, ?_⟩;exact(Kp.pre B.drew e3 hk3).kF e3 (by omega) _ _ _
theorem um{w w2:World}{a b c:Obj}(h:Below (((w.alloc a).alloc b).alloc c).heap.size (((w.alloc a).alloc b).alloc c) w2):Below w.heap.size w w2/\(w2.heap[w.heap.size]? =some a/\w2.heap[w.heap.size+1]? =some b/\w2.heap[w.heap.size+2]? =some c)/\w.heap.size<w2.heap.size/\w.heap.size+1<w2.heap.size/\w.heap.size+2<w2.heap.size:=by
 have d:=h.size;simp only[size_alloc]at d;obtain⟨e,f,g⟩:=Ll w a b c;exact⟨(dA w a b c).trans (h.mono (by simp only[size_alloc];omega)),⟨(h.block _ (by simp only[size_alloc];omega)).trans e,(h.block _ (by simp only[size_alloc];omega)).trans f,(h.block _ (by simp only[size_alloc];omega)).trans g⟩,by omega,by omega,by omega⟩
theorem BZ(w:World)(i:Nat)(co:Option Addr)(cn cc:Nat)(d:Option Addr)(c b:Nat)(r:aj)(sort ty size:Int)(quiet:Bool)(vk vn:Int)(vs:Bs)(place:Int)(fp h:Option Addr)(g f:Nat)
  (j:∀x:World,Below w.heap.size w x->Calls prog 249 #[DC i co cn cc d c b,.slice h g f] x λe w'=>fA x r e w'):
  Calls prog 198 #[DC i co cn cc d c b,.agg #[.int .i64 sort,.int .i64 ty,.int .i64 size,.bool quiet,.int .i64 vk,.int .i64 vn,.string (aa vs),.int .i64 place,.string ⟨#[97,110,100]⟩,.pointer fp,.slice h g f]] w λe w'=>fA w r e w':=by
 have a:=j _ (dA w (.cells #[.pointer (some ⟨i,0,none⟩),.slice co cn cc,.slice d c b] 312) (.cells #[.int .i64 sort,.int .i64 ty,.int .i64 size,.bool quiet,.int .i64 vk,.int .i64 vn,.string (aa vs),.int .i64 place,.string ⟨#[97,110,100]⟩,.pointer fp,.slice h g f] 210) (aI 0 0 ⟨#[]⟩));clear j;go_enter Tryz.func198,Tryz.ntmps198
 go_wp2_with(go_at_call 249;refine a.mono ?_;rintro e w2 ⟨rfl,hb2⟩;obtain⟨k,⟨_,_,l⟩,q,l1,l2⟩:=um hb2;obtain⟨⟨m,r1,r2⟩,n,o,p⟩:=aQ l)
 refine bodyPost_ret (v:=.tuple #[.agg #[.int .i64 r.1,.int .i64 r.2.1,.string (aa r.2.2)],.int .i64 0]) (by simp[results,Tryz.results198,go_sem,m,r1,r2]) rfl ⟨rfl, ?_⟩;exact aH k (by omega) _ _ _
theorem Eo(w:World)(i:Nat)(co:Option Addr)(cn cc:Nat)(d:Option Addr)(c b:Nat)(r:aj)(sort ty size:Int)(quiet:Bool)(vk vn:Int)(vs:Bs)(place:Int)(fp h:Option Addr)(g f:Nat)
  (j:∀x:World,Below w.heap.size w x->Calls prog 250 #[DC i co cn cc d c b,.slice h g f] x λe w'=>fA x r e w'):
  Calls prog 198 #[DC i co cn cc d c b,.agg #[.int .i64 sort,.int .i64 ty,.int .i64 size,.bool quiet,.int .i64 vk,.int .i64 vn,.string (aa vs),.int .i64 place,.string ⟨#[111,114]⟩,.pointer fp,.slice h g f]] w λe w'=>fA w r e w':=by
 have a:=j _ (dA w (.cells #[.pointer (some ⟨i,0,none⟩),.slice co cn cc,.slice d c b] 312) (.cells #[.int .i64 sort,.int .i64 ty,.int .i64 size,.bool quiet,.int .i64 vk,.int .i64 vn,.string (aa vs),.int .i64 place,.string ⟨#[111,114]⟩,.pointer fp,.slice h g f] 210) (aI 0 0 ⟨#[]⟩));clear j;go_enter Tryz.func198,Tryz.ntmps198
 go_wp2_with(go_at_call 250;refine a.mono ?_;rintro e w2 ⟨rfl,hb2⟩;obtain⟨k,⟨_,_,l⟩,q,l1,l2⟩:=um hb2;obtain⟨⟨m,r1,r2⟩,n,o,p⟩:=aQ l)
 refine bodyPost_ret (v:=.tuple #[.agg #[.int .i64 r.1,.int .i64 r.2.1,.string (aa r.2.2)],.int .i64 0]) (by simp[results,Tryz.results198,go_sem,m,r1,r2]) rfl ⟨rfl, ?_⟩;exact aH k (by omega) _ _ _
theorem Ca(w:World)(i:Nat)(co:Option Addr)(cn cc:Nat)(d:Option Addr)(c b:Nat)(r:aj)(cs:List aj)(sort ty size:Int)(quiet:Bool)(vk vn:Int)(vs:Bs)(place:Int)(head:Bs)(fp h:Option Addr)(g f:Nat)
  (l:head≠hAnd) (m:head≠hOr) (n:head≠xH) (o:head≠nz)
  (k:∀x:World,Below w.heap.size w x->Calls prog 252 #[DC i co cn cc d c b,.slice h g f] x λe w'=>∃ro rn rc,e=.returned (.tuple #[.slice ro rn rc,.int .i64 0])/\aO w' (.slice ro rn rc) cs/\Below x.heap.size x w') (p:xD head cs=some r):
  Calls prog 198 #[DC i co cn cc d c b,.agg #[.int .i64 sort,.int .i64 ty,.int .i64 size,.bool quiet,.int .i64 vk,.int .i64 vn,.string (aa vs),.int .i64 place,.string (aa head),.pointer fp,.slice h g f]] w λe w'=>fA w r e w':=by
 have a:=k _ (dA w (.cells #[.pointer (some ⟨i,0,none⟩),.slice co cn cc,.slice d c b] 312) (.cells #[.int .i64 sort,.int .i64 ty,.int .i64 size,.bool quiet,.int .i64 vk,.int .i64 vn,.string (aa vs),.int .i64 place,.string (aa head),.pointer fp,.slice h g f] 210) (aI 0 0 ⟨#[]⟩));have t1:((aa head).toList== [97,110,100])=false:=by rw[au];exact beq_eq_false_iff_ne.mpr l
 have t2:((aa head).toList== [111,114])=false:=by rw[au];exact beq_eq_false_iff_ne.mpr m
 have t3:((aa head).toList== [105,102])=false:=by rw[au];exact beq_eq_false_iff_ne.mpr n
 have t4:((aa head).toList== [110,111,116,101])=false:=by rw[au];exact beq_eq_false_iff_ne.mpr o
 clear k l m n o;go_enter Tryz.func198,Tryz.ntmps198
 go_wp2_with(first
  |(go_at_call 252;refine a.mono ?_;rintro e w2 ⟨ro,rn,rc,rfl,hcs,hb2⟩;obtain⟨j,⟨_,q,s⟩,B,l1,l2⟩:=um hb2;obtain⟨⟨D,E,F,G,H,I,J,K,L,M,A⟩,_⟩:=bz q)
  |(go_at_call 254;refine(Ld w2 _ cs hcs head r p).mono ?_;rintro e C ⟨rfl,hb3⟩;obtain⟨⟨t,r1,r2⟩,u,y,z⟩:=aQ ((hb3.block _ l2).trans s);have l3:=lt_of_lt_of_le l2 hb3.size))
 refine bodyPost_ret (v:=.tuple #[.agg #[.int .i64 r.1,.int .i64 r.2.1,.string (aa r.2.2)],.int .i64 0]) (by simp[results,Tryz.results198,go_sem,t,r1,r2]) rfl ⟨rfl, ?_⟩;exact aH (j.trans (hb3.mono j.size)) (by omega) _ _ _
abbrev Qu(sort ty size:Int)(quiet:Bool)(vk vn:Int)(vs:Bs)(place:Int)(head:Bs)(fp oo:Option Addr)(on oc:Nat):Value:=.agg #[.int .i64 sort,.int .i64 ty,.int .i64 size,.bool quiet,.int .i64 vk,.int .i64 vn,.string (aa vs),.int .i64 place,.string (aa head),.pointer fp,.slice oo on oc]
abbrev Iz(sort ty size:Int)(quiet:Bool)(vk vn:Int)(vs:Bs)(place:Int)(head:Bs)(fp oo:Option Addr)(on oc:Nat):Obj:=.cells #[.int .i64 sort,.int .i64 ty,.int .i64 size,.bool quiet,.int .i64 vk,.int .i64 vn,.string (aa vs),.int .i64 place,.string (aa head),.pointer fp,.slice oo on oc] 210
theorem Hg(w:World)(b:Nat)(a:Bs)(k:w.cell? ⟨b,0,none⟩=some (.string (aa a)))(c:b<w.heap.size)(co:Option Addr)(cn cc:Nat)(g:Option Addr)(f d:Nat)(ty size:Int)(quiet:Bool)(vk vn:Int)(vs:Bs)(place:Int)(head:Bs)(fp j:Option Addr)(i h:Nat):
  Calls prog 126 #[DC b co cn cc g f d,Qu 1 ty size quiet vk vn vs place head fp j i h] w λe w'=>fA w (2,0,a) e w':=by
 have l:=((dA w (Tq b co cn cc g f d) (Iz 1 ty size quiet vk vn vs place head fp j i h) (aI 0 0 ⟨#[]⟩)).cell (p:=⟨b,0,none⟩) c).trans k;go_enter Tryz.func126,Tryz.ntmps126
 go_wp2_with(go_at_call 197;refine(Lr _ _).mono ?_;rintro e w2 ⟨rfl,rfl⟩)
 refine bodyPost_ret (v:=.tuple #[.agg #[.int .i64 2,.int .i64 0,.string (aa a)],.int .i64 0]) (by simp[results,Tryz.results126,go_sem]) rfl ⟨rfl, ?_⟩;exact(dA w _ _ _).alloc (by simp only[size_alloc];omega) _
theorem Dv(w:World)(m:Nat)(co:Option Addr)(cn cc:Nat)(c:Option Addr)(b a:Nat)(sort ty size:Int)(d:sort≠1)(f:sort≠2)(g:sort≠3)(h:sort≠4)(i:sort≠5)(quiet:Bool)(vk vn:Int)(vs:Bs)(place:Int)(head:Bs)(fp l:Option Addr)(k j:Nat):
  Calls prog 126 #[DC m co cn cc c b a,Qu sort ty size quiet vk vn vs place head fp l k j] w λe w'=>fA w (vk,vn,vs) e w':=by
 have m1:(sort==1)=false:=by simpa using d
 have m2:(sort==2)=false:=by simpa using f
 have m3:(sort==3)=false:=by simpa using g
 have n:(sort==4)=false:=by simpa using h
 have o:(sort==5)=false:=by simpa using i
 go_enter Tryz.func126,Tryz.ntmps126
 go_wp2_with fail
 refine bodyPost_ret (v:=.tuple #[.agg #[.int .i64 vk,.int .i64 vn,.string (aa vs)],.int .i64 0]) (by simp[results,Tryz.results126,go_sem]) rfl ⟨rfl, ?_⟩;exact dA w _ _ _
theorem JR(w:World)(o:Nat)(co:Option Addr)(cn cc:Nat)(b a j:Nat)(args:List aj)(hb:b<w.heap.size)(p:Nat)(c:aj)(k:args[p]? =some c)(g:w.cell? ⟨b,a+p*3,none⟩=some (.int .i64 c.1))(h:w.cell? ⟨b,a+p*3+1,none⟩=some (.int .i64 c.2.1))(i:w.cell? ⟨b,a+p*3+2,none⟩=some (.string (aa c.2.2)))(ty size:Int)(quiet:Bool)(vk vn:Int)(vs:Bs)(head:Bs)(fp n:Option Addr)(m l:Nat):
  Calls prog 126 #[DC o co cn cc (some ⟨b,a,none⟩) args.length j,Qu 3 ty size quiet vk vn vs p head fp n m l] w λe w'=>fA w c e w':=by
 have s:p<args.length:=(List.getElem?_eq_some_iff.mp k).1;obtain⟨q,f,r⟩:=c;simp only at g h i ⊢;have d:=dA w (Tq o co cn cc (some ⟨b,a,none⟩) args.length j) (Iz 3 ty size quiet vk vn vs p head fp n m l) (aI 0 0 ⟨#[]⟩);replace g:=(d.cell (p:=⟨b,a+p*3,none⟩) hb).trans g;replace h:=(d.cell (p:=⟨b,a+p*3+1,none⟩) hb).trans h;replace i:=(d.cell (p:=⟨b,a+p*3+2,none⟩) hb).trans i;clear k d;go_enter Tryz.func126,Tryz.ntmps126
 go_wp2_with fail
 refine bodyPost_ret (v:=.tuple #[.agg #[.int .i64 q,.int .i64 f,.string (aa r)],.int .i64 0]) (by simp[results,Tryz.results126,go_sem]) rfl ⟨rfl, ?_⟩;exact dA w _ _ _
theorem JQ(w:World)(r:Nat)(l:Option Addr)(k j:Nat)(b a cc:Nat)(ax:List aj)(hb:b<w.heap.size)(p:Nat)(c:aj)(m:ax[p]? =some c)(g:w.cell? ⟨b,a+p*3,none⟩=some (.int .i64 c.1))(h:w.cell? ⟨b,a+p*3+1,none⟩=some (.int .i64 c.2.1))(i:w.cell? ⟨b,a+p*3+2,none⟩=some (.string (aa c.2.2)))(ty size:Int)(quiet:Bool)(vk vn:Int)(vs:Bs)(head:Bs)(fp q:Option Addr)(o n:Nat):
  Calls prog 126 #[DC r (some ⟨b,a,none⟩) ax.length cc l k j,Qu 2 ty size quiet vk vn vs p head fp q o n] w λe w'=>fA w c e w':=by
 have u:p<ax.length:=(List.getElem?_eq_some_iff.mp m).1;obtain⟨s,f,t⟩:=c;simp only at g h i ⊢;have d:=dA w (Tq r (some ⟨b,a,none⟩) ax.length cc l k j) (Iz 2 ty size quiet vk vn vs p head fp q o n) (aI 0 0 ⟨#[]⟩);replace g:=(d.cell (p:=⟨b,a+p*3,none⟩) hb).trans g;replace h:=(d.cell (p:=⟨b,a+p*3+1,none⟩) hb).trans h;replace i:=(d.cell (p:=⟨b,a+p*3+2,none⟩) hb).trans i;clear m d;go_enter Tryz.func126,Tryz.ntmps126
 go_wp2_with fail
 refine bodyPost_ret (v:=.tuple #[.agg #[.int .i64 s,.int .i64 f,.string (aa t)],.int .i64 0]) (by simp[results,Tryz.results126,go_sem]) rfl ⟨rfl, ?_⟩;exact dA w _ _ _
theorem Dt(q:Bool)(m:Nat)(a:Bs)(r:aj)(w:World)(b:Nat)(f:b<w.heap.size)(co:Option Addr)(cn cc:Nat)(i:Option Addr)(h g:Nat)(ty size:Int)(quiet:Bool)(vk vn:Int)(vs:Bs)(place:Int)(head:Bs)(fp l:Option Addr)(k j:Nat)
  (o:∀x:World,Below w.heap.size w x->Calls prog 198 #[DC b co cn cc i h g,Qu 4 ty size quiet vk vn vs place head fp l k j] x λe w'=>pY q b a m r x e w'):
  Calls prog 126 #[DC b co cn cc i h g,Qu 4 ty size quiet vk vn vs place head fp l k j] w λe w'=>pY q b a m r w e w':=by
 have c:=dA w (Tq b co cn cc i h g) (Iz 4 ty size quiet vk vn vs place head fp l k j) (aI 0 0 ⟨#[]⟩);have p:=(Ll w (Tq b co cn cc i h g) (Iz 4 ty size quiet vk vn vs place head fp l k j) (aI 0 0 ⟨#[]⟩)).2.2;have n:=o _ c;have d:w.heap.size+2≠b:=by omega
 clear o;go_enter Tryz.func126,Tryz.ntmps126
 go_wp2_with(go_at_call 198;refine n.mono ?_;rintro e w2 ⟨rfl,hk2⟩;obtain⟨⟨s,r1,r2⟩,t,u,y⟩:=aQ ((hk2.2.1 (w.heap.size+2) (by simp only[size_alloc];omega) d).trans p);have l2:w.heap.size+2<w2.heap.size:=lt_of_lt_of_le (by simp only[size_alloc];omega) hk2.size)
 refine bodyPost_ret (v:=.tuple #[.agg #[.int .i64 r.1,.int .i64 r.2.1,.string (aa r.2.2)],.int .i64 0]) (by simp[results,Tryz.results126,go_sem,s,r1,r2]) rfl ⟨rfl, ?_⟩;exact(Kp.pre c f hk2).kF f (by omega) _ _ _
theorem Du(r:aj)(w:World)(j:Nat)(co:Option Addr)(cn cc:Nat)(d:Option Addr)(c b:Nat)(ty size:Int)(quiet:Bool)(vk vn:Int)(vs:Bs)(place:Int)(head:Bs)(fp i:Option Addr)(h g:Nat)
  (k:∀x:World,Below w.heap.size w x->Calls prog 199 #[DC j co cn cc d c b,Qu 5 ty size quiet vk vn vs place head fp i h g] x λe w'=>fA x r e w'):
  Calls prog 126 #[DC j co cn cc d c b,Qu 5 ty size quiet vk vn vs place head fp i h g] w λe w'=>fA w r e w':=by
 have f:=dA w (Tq j co cn cc d c b) (Iz 5 ty size quiet vk vn vs place head fp i h g) (aI 0 0 ⟨#[]⟩);have a:=k _ f;clear k;go_enter Tryz.func126,Tryz.ntmps126
 go_wp2_with(go_at_call 199;refine a.mono ?_;rintro e w2 ⟨rfl,hb2⟩;obtain⟨l,⟨_,_,m⟩,s,l1,l2⟩:=um hb2;obtain⟨⟨n,r1,r2⟩,o,p,q⟩:=aQ m)
 refine bodyPost_ret (v:=.tuple #[.agg #[.int .i64 r.1,.int .i64 r.2.1,.string (aa r.2.2)],.int .i64 0]) (by simp[results,Tryz.results126,go_sem,n,r1,r2]) rfl ⟨rfl, ?_⟩;exact aH l (by omega) _ _ _
theorem zH(q:Bool)(m:Nat)(b:Bs)(r:aj)(w:World)(d:Nat)(g:d<w.heap.size)(k:List Nat)(fb:Nat)(fn:Fn)(s:mP w k fb fn)(p:Option Addr)(o n:Nat)
  (l:∀(x:World) (c:Array Value),Below w.heap.size w x->dJ x k (λ_=>True) c.toList fn.body->Calls prog 126 #[DC d none 0 0 p o n,.agg c] x λe w'=>pY q d b m r x e w'):
  Calls prog 70 #[.pointer (some ⟨d,0,none⟩),.pointer (some ⟨fb,0,none⟩),.slice p o n] w λe w'=>pY q d b m r w e w':=by
 obtain⟨i,sort,ty,size,quiet,vk,vn,vs,place,head,fp,A,z,y,t,f⟩:=s.body;have a:=ae w (aI 0 0 ⟨#[]⟩);have u:=heap_alloc_new w (aI 0 0 ⟨#[]⟩);have h:=l _ #[.int .i64 sort,.int .i64 ty,.int .i64 size,.bool quiet,.int .i64 vk,.int .i64 vn,.string (aa vs),.int .i64 place,.string (aa head),.pointer fp,.slice A z y] a (t.ag a);obtain⟨G,H,I,J,K,L,M,N,O,P,F⟩:=f _ (a.block fb i);have j:w.heap.size≠d:=by omega
 clear l t f s;go_enter Tryz.func70,Tryz.ntmps70
 go_wp2_with(go_at_call 126;refine h.mono ?_;rintro e w2 ⟨rfl,hk2⟩;obtain⟨⟨B,r1,r2⟩,C,D,E⟩:=aQ ((hk2.2.1 w.heap.size (by simp only[size_alloc];omega) j).trans u);have l2:w.heap.size<w2.heap.size:=lt_of_lt_of_le (by simp only[size_alloc];omega) hk2.size)
 refine bodyPost_ret (v:=.tuple #[.agg #[.int .i64 r.1,.int .i64 r.2.1,.string (aa r.2.2)],.int .i64 0]) (by simp[results,Tryz.results70,go_sem,B,r1,r2]) rfl ⟨rfl, ?_⟩;exact(Kp.pre a g hk2).kF g (le_refl _) _ _ _
theorem Lp(r:aj)(cs:List aj)(w:World)(a:Nat)(co:Option Addr)(cn cc:Nat)(g:Option Addr)(f d:Nat)(sort ty size:Int)(quiet:Bool)(vk vn:Int)(vs:Bs)(place:Int)(head:Bs)(fb:Nat)(k:Option Addr)(j i:Nat)
  (l:∀x:World,Below w.heap.size w x->Calls prog 252 #[DC a co cn cc g f d,.slice k j i] x λe w'=>∃ro rn rc,e=.returned (.tuple #[.slice ro rn rc,.int .i64 0])/\aO w' (.slice ro rn rc) cs/\Below x.heap.size x w')
  (m:∀(x:World) (ro:Option Addr) (rn rc:Nat),Below w.heap.size w x->aO x (.slice ro rn rc) cs->Calls prog 70 #[.pointer (some ⟨a,0,none⟩),.pointer (some ⟨fb,0,none⟩),.slice ro rn rc] x λe w'=>fA x r e w'):
  Calls prog 199 #[DC a co cn cc g f d,Qu sort ty size quiet vk vn vs place head (some ⟨fb,0,none⟩) k j i] w λe w'=>fA w r e w':=by
 have h:=dA w (Tq a co cn cc g f d) (Iz sort ty size quiet vk vn vs place head (some ⟨fb,0,none⟩) k j i) (aI 0 0 ⟨#[]⟩);have c:=l _ h;clear l;go_enter Tryz.func199,Tryz.ntmps199
 go_wp2_with(first
  |(go_at_call 252;refine c.mono ?_;rintro e w2 ⟨ro,rn,rc,rfl,hcs,hb2⟩;obtain⟨b,⟨n,o,p⟩,z,l1,l2⟩:=um hb2;obtain⟨⟨B,C,D,E,F,G,H,I,J,K,y⟩,_⟩:=bz o;obtain⟨⟨f0,f1,f2⟩,_⟩:=aQ n)
  |(go_at_call 70;refine(m _ _ _ _ b hcs).mono ?_;rintro e A ⟨rfl,hb3⟩;obtain⟨⟨q,r1,r2⟩,s,t,u⟩:=aQ ((hb3.block _ l2).trans p);have l3:=lt_of_lt_of_le l2 hb3.size))
 refine bodyPost_ret (v:=.tuple #[.agg #[.int .i64 r.1,.int .i64 r.2.1,.string (aa r.2.2)],.int .i64 0]) (by simp[results,Tryz.results199,go_sem,q,r1,r2]) rfl ⟨rfl, ?_⟩;exact aH (b.trans (hb3.mono b.size)) (by omega) _ _ _
theorem fA.Kw{b:Nat}{a:Bs}{m:Nat}{v:aj}{w:World}{e:Ending}{w':World}(h:fA w v e w')(c:b<w.heap.size):pY true b a m v w e w':=⟨h.1,Below.kp h.2 c⟩
theorem pY.UB{b:Nat}{a:Bs}{m:Nat}{v:aj}{w:World}{e:Ending}{w':World}(h:pY true b a m v w e w'):fA w v e w':=⟨h.1,h.2.below⟩
theorem zR{w:World}{c:List Nat}{fns:List Fn}{b:Bs}{i g o n:Nat}{k:List Ex}(l:DF w c fns b i)(h:lH w c (.slice (some ⟨g,0,none⟩) o n) k):g≠i:=by
 intro e;subst e;obtain⟨⟨t,s,r,m⟩,_,_⟩:=l;obtain⟨cs,p,cap,e,a,_⟩:=h;rcases a.2 with⟨h,_⟩|⟨q,d,j,h,_,f,_⟩
 ·cases h
 ·cases h;rw[m]at f;cases f
theorem LQ{f:Ex->Option aj}{h:Bs}{c:List Ex}{v:aj}(d:h≠hAnd)(e:h≠hOr)(g:h≠xH)(a:uD f h c=some v):∃cs,rq f c=some cs/\xD h cs=some v:=by
 rw[uD,if_neg d,if_neg e,if_neg g]at a;split at a
 ·cases a
 ·next cs b=>exact⟨cs,b,a⟩
theorem Lc(cs:List aj):xD nz cs=none:=by
 match cs with
 | []=>rfl
 | [_]=>rw[xD,if_neg (by decide)]
 | [_,_]=>rw[xD,JY,if_neg (by decide)]
 |_::_::_::_=>rfl
theorem xU(fns:List Fn)(d:Bs)(N:Nat)(z:ru fns d N)(w:World)(q:List Nat)(m:Nat)(ax args:List aj)(co:Option Addr)(cn cc:Nat)(l:Option Addr)(k j:Nat)
  (hF:xC w q fns d m (.slice co cn cc) (.slice l k j) ax args) (sort ty size:Int) (quiet:Bool) (vk vn:Int) (vs:Bs) (place:Int) (head:Bs) (fp t:Option Addr) (p o:Nat) (r:List Ex) (s:lH w q (.slice t p o) r) (Q:r.length<=1000) (v:aj) (f:uD (tY fns d N ax args) head r=some v):
  Calls prog 198 #[DC m co cn cc l k j,Qu sort ty size quiet vk vn vs place head fp t p o] w λe w'=>fA w v e w':=by
 by_cases W:head=hAnd
 ·subst W;rw[uD,if_pos rfl]at f;exact BZ w m co cn cc l k j v sort ty size quiet vk vn vs place fp t p o λx i=>QG fns d N z x q m ax args co cn cc l k j (hF.ag i) t p o r (s.ag i) Q v f
 by_cases X:head=hOr
 ·subst X;rw[uD,if_neg (by decide),if_pos rfl]at f;exact Eo w m co cn cc l k j v sort ty size quiet vk vn vs place fp t p o λx i=>TI fns d N z x q m ax args co cn cc l k j (hF.ag i) t p o r (s.ag i) Q v f
 by_cases Y:head=xH
 ·subst Y;rw[uD,if_neg (by decide),if_neg (by decide),if_pos rfl]at f;have h3:∃a b c,r= [a,b,c]:=by
   match r,f with
   | [a,b,c],_=>exact⟨a,b,c,rfl⟩
  obtain⟨a,b,c,rfl⟩:=h3;obtain⟨g,a1,a9,Z,E,b2,b5,b8,B,M,a4,c7,c4,c1,rfl,hg,T,I⟩:=IA 0 s (by simp);obtain⟨g1,a2,b0,a0,F,b3,b6,b9,C,O,a5,c8,c5,c2,e1,a7,U,J⟩:=IA 1 s (by simp);obtain⟨g2,a3,b1,nI,G,b4,b7,c0,D,P,a6,c9,c6,c3,e2,a8,V,K⟩:=IA 2 s (by simp)
  cases e1
  cases e2;have R:p=3:=by obtain⟨_,_,_,e,_⟩:=s;cases e;rfl
  subst R;have S:=hF.lt;have va:∃u,tY fns d N ax args a=some u:=by
   rw[VH]at f
   cases h:tY fns d N ax args a with
   |none=>rw[h]at f;cases f
   |some u=>exact⟨u,rfl⟩
  obtain⟨u,hu⟩:=va;rw[VH,hu]at f;simp only at f;refine(En true 0 d w m S co cn cc l k j v sort ty size quiet vk vn vs place fp g o hg (zR hF.env s) I J K λx i=> ?_).mono λe w' h=>h.UB;refine Ik true 0 d x m (by have:=i.size;omega) co cn cc l k j u v (λy A=> ?_) (λht y A=> ?_) (λhn y A=> ?_)
  ·have n:=i.trans (A.mono i.size);exact z a u y q m ax args co cn cc l k j _ hu (hF.ag n) (T.ag n)
  ·have n:=i.trans (A.mono i.size);rw[if_pos ht]at f;exact(z b v y q m ax args co cn cc l k j _ f (hF.ag n) (U.ag n)).mono λe w' h=>h.Kw (by have:=n.size;omega)
  ·have n:=i.trans (A.mono i.size);rw[if_neg hn]at f;exact(z c v y q m ax args co cn cc l k j _ f (hF.ag n) (V.ag n)).mono λe w' h=>h.Kw (by have:=n.size;omega)
 obtain⟨cs,L,H⟩:=LQ W X Y f;have n4:head≠nz:=λe=>by subst e;rw[Lc]at H;cases H
 exact Ca w m co cn cc l k j v cs sort ty size quiet vk vn vs place head fp t p o W X Y n4 (λx i=>zG fns d N z x q m ax args co cn cc l k j (hF.ag i) t p o r (s.ag i) Q cs L) H
theorem KU(fns:List Fn)(d:Bs):∀N,ru fns d N
 |0=>λe v w u g ax args co cn cc p o j c a=>by cases a
 |N+1=>by
  have E:=KU fns d N;intro e v w u g ax args co cn cc p o j c a hF Y;obtain⟨sort,ty,size,quiet,vk,vn,vs,place,head,W,D⟩:=e;obtain⟨fp,n,m,l,X,S,J⟩:=Y.ops;have F:c= #[.int .i64 sort,.int .i64 ty,.int .i64 size,.bool quiet,.int .i64 vk,.int .i64 vn,.string (aa vs),.int .i64 place,.string (aa head),.pointer fp,.slice n m l]:=by rw[<-Array.toList_inj];exact X
  subst F;unfold tY at a;by_cases T:1000<D.length
  ·rw[if_pos T]at a;cases a
  rw[if_neg T]at a;have C:=hF.lt;by_cases s1:sort=1
  ·subst s1;rw[if_pos rfl]at a;cases a;obtain⟨no,nn,Z,B⟩:=hF.env.wk;exact Hg w g d ((af B).trans rfl) C co cn cc p o j ty size quiet vk vn vs place head fp n m l
  rw[if_neg s1]at a;by_cases s2:sort=2
  ·subst s2;rw[if_pos rfl]at a;obtain⟨b,t,k,rfl,rfl,hb,rfl,B,M,O,P⟩:=wX hF.ax a;exact JQ w g p o j b t cc ax hb k v B M O P ty size quiet vk vn vs head fp n m l
  rw[if_neg s2]at a;by_cases s3:sort=3
  ·subst s3;rw[if_pos rfl]at a;obtain⟨b,t,k,rfl,rfl,hb,rfl,B,M,O,P⟩:=wX hF.args a;exact JR w g co cn cc b t j args hb k v B M O P ty size quiet vk vn vs head fp n m l
  rw[if_neg s3]at a;by_cases Q:sort=4
  ·subst Q;rw[if_pos rfl]at a;refine(Dt true 0 d v w g C co cn cc p o j ty size quiet vk vn vs place head fp n m l λx f=> ?_).mono λe w' h=>h.UB;exact(xU fns d N E x u g ax args co cn cc p o j (hF.ag f) 4 ty size quiet vk vn vs place head fp n m l D (S.ag f) (by omega) v a).mono λe w' h=>h.Kw (by have:=f.size;omega)
  rw[if_neg Q]at a;by_cases R:sort=5
  ·subst R;rw[if_pos rfl]at a
   cases W with
   |none=>cases a
   |some i=>
    simp only at a
    cases s:fns[i]? with
    |none=>rw[s]at a;cases a
    |some fn=>
     rw[s]at a;simp only at a
     cases r:rq (tY fns d N ax args) D with
     |none=>rw[r]at a;cases a
     |some cs=>
      rw[r]at a;simp only at a;obtain⟨fb,I,rfl⟩:∃b,u[i]? =some b/\fp=some ⟨b,0,none⟩:=J;have H:=hF.env.fn i fb fn I s;refine Du v w g co cn cc p o j ty size quiet vk vn vs place head (some ⟨fb,0,none⟩) n m l λx f=> ?_;refine Lp v cs x g co cn cc p o j 5 ty size quiet vk vn vs place head fb n m l (λy L=> ?_) (λy ro rn rc L G=> ?_)
      ·have q:=f.trans (L.mono f.size);exact zG fns d N E y u g ax args co cn cc p o j (hF.ag q) n m l D (S.ag q) (by omega) cs r
      ·have q:=f.trans (L.mono f.size);refine(zH true 0 d v y g (by have:=q.size;omega) u fb fn (H.ag q) ro rn rc λz V U K=> ?_).mono λe w' h=>h.UB;have A:=q.trans (U.mono q.size);refine(E fn.body v z u g [] cs none 0 0 ro rn rc V a ⟨hF.env.ag A,⟨none,0,rfl,by simp,.inl rfl⟩,G.ag U⟩ K).mono λe w' h=>h.Kw (by have:=A.size;omega)
  rw[if_neg R]at a;cases a;exact Dv w g co cn cc p o j sort ty size s1 s2 s3 Q R quiet vk vn vs place head fp n m l
end Go.Proofs.YtdifpeaklamhnaaGreatDoor
