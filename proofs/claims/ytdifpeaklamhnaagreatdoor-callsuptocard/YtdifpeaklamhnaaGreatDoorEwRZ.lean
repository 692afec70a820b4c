import Derived.Test.YtdifpeaklamhnaaGreatDoorEwDZ
import Derived.Test.YtdifpeaklamhnaaGreatDoorBaBZ
set_option linter.unusedVariables false
set_option linter.unusedSimpArgs false
set_option maxRecDepth 100000
set_option maxHeartbeats 0
namespace Go.Proofs.YtdifpeaklamhnaaGreatDoor
open Go.Proofs.Tryz
open Go.RowKit
open World (size_alloc size_setCell)
open Nat (lt_of_lt_of_le le_refl)
open Below (kn heap_alloc refl)
open Value (slice agg)
def yl(b:Bool)(v:au):Prop:=b=true↔v=aW true
abbrev Li(sort ty size:Int)(quiet:Bool)(vk vn:Int)(vs:Bs)(place:Int)(head:Bs)(fp xo:Option Addr)(xn xc:Nat):Obj:=.cells (uq sort ty size quiet vk vn vs place head fp xo xn xc) 210
section
variable {sort ty size : Int} {quiet : Bool} {vk vn : Int} {vs : Bs} {place : Int} {head : Bs} {fp xo : Option Addr} {xn xc : Nat} {sort' ty' size' : Int} {quiet' : Bool} {vk' vn' : Int} {vs' : Bs} {place' : Int} {head' : Bs} {fp' xo' : Option Addr} {xn' xc' : Nat} {sort2 ty2 ql : Int} {quiet2 : Bool} {vk2 vn2 : Int} {vs2 : Bs} {place2 : Int} {head2 : Bs} {fp2 xo2 : Option Addr} {xn2 xc2 : Nat}
theorem NU(a:Bs)(w:World)(d:Nat)(j:d<w.heap.size)(co:Option Addr)(cn cc:Nat)(A:Option Addr)(z y:Nat)(v:au)(k:Int)(G:List Bs)(r:Rs)(W:k≠0->r=(bO,k,G))
  (M:∀x:World,Below w.heap.size w x->Calls prog 126 #[qI d co cn cc A z y,.agg (uq sort ty size quiet vk vn vs place head fp xo xn xc)] x λe w'=>Fin d a (v,k,G) x e w')
  (t:k=0->v=aW true->∀x:World,Kn d w x->Wk x d a G->Calls prog 126 #[qI d co cn cc A z y,.agg (uq sort' ty' size' quiet' vk' vn' vs' place' head' fp' xo' xn' xc')] x λe w'=>Fin d a r x e w')
  (s:k=0->v≠aW true->∀x:World,Kn d w x->Wk x d a G->Calls prog 126 #[qI d co cn cc A z y,.agg (uq sort2 ty2 ql quiet2 vk2 vn2 vs2 place2 head2 fp2 xo2 xn2 xc2)] x λe w'=>Fin d a r x e w'):
  Calls prog 251 #[qI d co cn cc A z y,.agg (uq sort ty size quiet vk vn vs place head fp xo xn xc),.agg (uq sort' ty' size' quiet' vk' vn' vs' place' head' fp' xo' xn' xc'),.agg (uq sort2 ty2 ql quiet2 vk2 vn2 vs2 place2 head2 fp2 xo2 xn2 xc2)] w λe w'=>Fin d a r w e w':=by
 have c:=NG w (Bh d co cn cc A z y) (Li sort ty size quiet vk vn vs place head fp xo xn xc) (Li sort' ty' size' quiet' vk' vn' vs' place' head' fp' xo' xn' xc') (Li sort2 ty2 ql quiet2 vk2 vn2 vs2 place2 head2 fp2 xo2 xn2 xc2) (aC 0 0 ⟨#[]⟩);obtain⟨X,_,Y,Z,Q⟩:=UJ w (Bh d co cn cc A z y) (Li sort ty size quiet vk vn vs place head fp xo xn xc) (Li sort' ty' size' quiet' vk' vn' vs' place' head' fp' xo' xn' xc') (Li sort2 ty2 ql quiet2 vk2 vn2 vs2 place2 head2 fp2 xo2 xn2 xc2) (aC 0 0 ⟨#[]⟩);have i:=M _ c;simp only[Fin]at i;by_cases n:k=0
 ·subst n;replace t:=t rfl;replace s:=s rfl;go_enter Tryz.func251,Tryz.ntmps251;go_upto_region 4 with(go_at_call 126;refine i.mono ?_;rintro e w2 ⟨rfl,hk2,kn2⟩)
  obtain⟨q,m,f⟩:=v;go_cut [24] (λR wx=>(∃b:Bool,R=.bool b/\yl b (q,m,f))/\Hid (Below w2.heap.size w2 wx))
  case first=>
   by_cases V:q=3
   ·subst V;by_cases U:m=1
    ·subst U;by_cases N:(aa f).toList= []
     ·have g:yl true (3,1,f):=by
       rw[aj]at N;rw[yl,N];exact⟨λ_=>rfl,λ_=>rfl⟩
      go_region_with(go_at_call 137;refine(cK _ _).mono ?_;rintro e S ⟨rfl,rfl⟩);all_goals(go_wp2_with fail;go_meet)
      all_goals exact⟨⟨true,rfl,g⟩,(show Below w2.heap.size w2 _ from by first|exact(az w2 _ _).drew|exact az w2 _ _)⟩
     ·have g:yl false (3,1,f):=by
       refine⟨λh=>(by cases h),λh=> ?_⟩;rw[aj]at N;cases h;exact absurd rfl N
      go_region_with(go_at_call 137;refine(cK _ _).mono ?_;rintro e S ⟨rfl,rfl⟩);all_goals(go_wp2_with fail;go_meet)
      all_goals exact⟨⟨false,rfl,g⟩,(show Below w2.heap.size w2 _ from by first|exact(az w2 _ _).drew|exact az w2 _ _)⟩
    ·have g:yl false (3,m,f):=⟨λh=>(by cases h),λh=>absurd (congrArg (λp:au=>p.2.1) h) U⟩;go_region_with(go_at_call 137;refine(cK _ _).mono ?_;rintro e S ⟨rfl,rfl⟩);all_goals(go_wp2_with fail;go_meet)
     all_goals exact⟨⟨false,rfl,g⟩,(show Below w2.heap.size w2 _ from by first|exact(az w2 _ _).drew|exact az w2 _ _)⟩
   ·have g:yl false (q,m,f):=⟨λh=>(by cases h),λh=>absurd (congrArg (λp:au=>p.1) h) V⟩;go_region_with(go_at_call 137;refine(cK _ _).mono ?_;rintro e S ⟨rfl,rfl⟩);all_goals(go_wp2_with fail;go_meet)
    all_goals exact⟨⟨false,rfl,g⟩,(show Below w2.heap.size w2 _ from by first|exact(az w2 _ _).drew|exact az w2 _ _)⟩
  case rest=>
   obtain⟨⟨b,rfl,g⟩,O⟩:=hcut;have u:Kn d _ wc:=kn2.trans (kn O.out (by have:=kn2.size;have:=c.size;omega));have L:Kn d w wc:=u.pre c (by omega);have C:=hk2.ah O.out;obtain⟨P,a1,⟨f0,f1,f2⟩,_⟩:=u.box X (by decide) (by decide);obtain⟨F,a4, -, -⟩:=u.box Q (by decide) (by decide);have D:=u.2 _ _ _ _ Y (by decide) (by decide);have E:=u.2 _ _ _ _ Z (by decide) (by decide);have a2:=af D;have a3:=af E;clear c O u X Y Z Q P kn2 hk2
   cases b with
   |true=>
    have B:=t (g.mp rfl) wc L C;obtain⟨⟨y0,y1,y2,y3,y4,y5,y6,y7,y8,y9,T⟩,_⟩:=aX D;clear g t s M i
    go_wp2_with(go_at_call 126;refine B.mono ?_)
    clear B;rintro e w4 ⟨rfl,hk4,kn4⟩;obtain⟨o,l,⟨H,r1,r2⟩,I,J,K⟩:=kn4.box F (by decide) (by decide)
    go_wp2_with fail
    refine bodyPost_ret (v:=.tuple #[.agg #[.int .i64 r.1.1,.int .i64 r.1.2.1,.string (aa r.1.2.2)],.int .i64 r.2.1]) (by simp[results,Tryz.results251,go_sem,H,r1,r2]) rfl ?_;exact Fin.end rfl j hk4 (L.trans kn4) (by omega) o _ _ _
   |false=>
    have B:=s (λh=>Bool.false_ne_true (g.mpr h)) wc L C;obtain⟨⟨y0,y1,y2,y3,y4,y5,y6,y7,y8,y9,T⟩,_⟩:=aX E;clear g t s M i
    go_wp2_with(go_at_call 126;refine B.mono ?_)
    clear B;rintro e w4 ⟨rfl,hk4,kn4⟩;obtain⟨o,l,⟨H,r1,r2⟩,I,J,K⟩:=kn4.box F (by decide) (by decide)
    go_wp2_with fail
    refine bodyPost_ret (v:=.tuple #[.agg #[.int .i64 r.1.1,.int .i64 r.1.2.1,.string (aa r.1.2.2)],.int .i64 r.2.1]) (by simp[results,Tryz.results251,go_sem,H,r1,r2]) rfl ?_;exact Fin.end rfl j hk4 (L.trans kn4) (by omega) o _ _ _
 ·have a0:(k==0)=false:=by simpa using n
  have HR:Hid (r=(bO,k,G)):=W n;clear t s M W;go_enter Tryz.func251,Tryz.ntmps251
  go_wp2_with(go_at_call 126;refine i.mono ?_;rintro e w2 ⟨rfl,hk2,kn2⟩;obtain⟨o,l,⟨H,r1,r2⟩,I,J,K⟩:=kn2.box Q (by decide) (by decide))
  refine bodyPost_ret (v:=.tuple #[.agg #[.int .i64 0,.int .i64 0,.string ⟨#[]⟩],.int .i64 k]) (by simp[results,Tryz.results251,go_sem,H,r1,r2,l]) rfl ?_;rw[HR.out]
  first
   |exact Fin.end rfl j hk2 (kn2.pre c (by omega)) (by omega) o _ _ _
   |exact(Fin.end rfl j hk2 (kn2.pre c (by omega)) (by omega) o _ _ _).ah (ae _ _) (by omega)
   |exact Fin.end rfl j (hk2.ah (ae _ _)) ((kn2.pre c (by omega)).trans (kn (ae _ _) (by have:=kn2.size;have:=c.size;omega))) (by omega) (((ae w2 _).block _ l).trans o) _ _ _
end
def Nt(wb:Nat)(nv:Value)(w w':World):Prop:=Below wb w w'/\∀g,g<w.heap.size->g≠wb->nv.ownBlock≠some g->w'.heap[g]? =w.heap[g]?
theorem CJ:(Tryz.prog.info? 9).map (λi=>(i.zero,i.size,i.bytes))=some (some (.string ⟨#[]⟩),1,16):=by kernel_rfl
theorem KW(x:World)(o:Obj):(x.alloc o).drew.heap[x.heap.size]? =some o:=heap_alloc_new x o
theorem KZ{w:World}{b:Nat}{a0 a1 a2:Value}{o:Obj}(h:b<w.heap.size)(a:w.cell? ⟨b,0,none⟩=some a0)(c:w.cell? ⟨b,1,none⟩=some a1)(d:w.cell? ⟨b,2,none⟩=some a2):(w.alloc o).cell? ⟨b,0,none⟩=some a0/\(w.alloc o).cell? ⟨b,1,none⟩=some a1/\(w.alloc o).cell? ⟨b,2,none⟩=some a2:=
 have hb:=ae w o
 ⟨(hb.cell (p:=⟨b,0,none⟩) h).trans a,(hb.cell (p:=⟨b,1,none⟩) h).trans c,(hb.cell (p:=⟨b,2,none⟩) h).trans d⟩
theorem Pd{w W w2 w7:World}{f h a:Nat}{d:Bs}{m:Option Addr}{l k:Nat}{ns:List Bs}{j:Bs}{o:Obj}(q:w.heap[f]? =some (.cells #[.string (aa d),.slice m l k] 221 (0,0)))(c:w.ownsRow (f+1) 9 1 (.slice m l k) ns.length (bD ns))
  (i:Below w.heap.size w W) (A:W.heap.size=w.heap.size+2) (b:Below W.heap.size W w2) (p:(w2.alloc o).grownBy w7 (slice m l k).ownBlock) (z:w7.ownsRow (f+1) 9 1 (.slice (some ⟨h,0,none⟩) (ns.length+1) a) (ns.length+1) (bD ns++ [.string (aa j)])) (n:(slice m l k).ownBlock=some h\/h=w2.heap.size+1)
  (D:w7.heap[f]? =some (.cells #[.string (aa d),.slice m l k] 221)) {a0 a1 a2:Value} :
  Qx ((((w7.setCell ⟨f,1,none⟩ (.slice (some ⟨h,0,none⟩) (ns.length+1) a)).setCell ⟨w.heap.size+1,0,none⟩ a0).setCell ⟨w.heap.size+1,1,none⟩ a1).setCell ⟨w.heap.size+1,2,none⟩ a2) f d (some ⟨h,0,none⟩) (ns.length+1) a (ns++ [j])/\
  Nt f (.slice m l k) w ((((w7.setCell ⟨f,1,none⟩ (.slice (some ⟨h,0,none⟩) (ns.length+1) a)).setCell ⟨w.heap.size+1,0,none⟩ a0).setCell ⟨w.heap.size+1,1,none⟩ a1).setCell ⟨w.heap.size+1,2,none⟩ a2):=by
 have C:=af q;have B:=b.size;have u:=p.size;simp only[size_alloc]at u;have r:h≠w.heap.size+1:=by
  rcases n with e|e
  ·have:=(c.lt _ e).2;omega
  ·omega
 have t:h≠f:=by
  rcases n with e|e
  ·have:=(c.lt _ e).1;omega
  ·omega
 have ah:∀g,g<w.heap.size->g≠f->(slice m l k).ownBlock≠some g->((((w7.setCell ⟨f,1,none⟩ (.slice (some ⟨h,0,none⟩) (ns.length+1) a)).setCell ⟨w.heap.size+1,0,none⟩ a0).setCell ⟨w.heap.size+1,1,none⟩ a1).setCell ⟨w.heap.size+1,2,none⟩ a2).heap[g]? =w.heap[g]? :=by
  intro g v x y;rw[bF _ _ _ _ _ _ (by omega),Below.heap_setCell _ _ _ _ x,p.block g (by simp only[size_alloc];omega) (λe=>y e.symm),heap_alloc _ _ _ (by omega),b.block g (by omega)];exact i.block g v
 refine⟨⟨?_, ?_⟩,⟨⟨?_, ?_, ?_, ?_, ?_⟩,ah⟩⟩
 ·rw[bF _ _ _ _ _ _ (by omega)];simp[World.setCell,Array.getElem?_modify,D]
 ·have e:bD (ns++ [j])=bD ns++ [.string (aa j)]:=by simp[bD]
  rw[e,List.length_append];exact aA z λg s=>by cases s;rw[bF _ _ _ _ _ _ r,Below.heap_setCell _ _ _ _ t]
 ·exact p.os.trans (b.os.trans i.os)
 ·exact p.tape.trans (b.tape.trans i.tape)
 ·exact p.output.trans (b.output.trans i.output)
 ·simp only[size_setCell];omega
 ·intro g v;exact ah g (by omega) (by omega) (λe=>by have:=(c.lt _ e).1;omega)
theorem Pb(w:World)(f:Nat)(l:Bs)(z:Option Addr)(y s:Nat)(ns:List Bs)(hk:Qx w f l z y s ns)(Y:sJ w)(c:au)(V: -9223372036854775808<=c.2.1)(X:c.2.1<=9223372036854775807)(hl:c.2.2.length<=1000)(hn:ns.length<=1000000000):
  Calls prog 253 #[.pointer (some ⟨f,0,none⟩),.agg #[.int .i64 c.1,.int .i64 c.2.1,.string (aa c.2.2)]] w λe w'=>e=.returned (.agg #[.int .i64 c.1,.int .i64 c.2.1,.string (aa c.2.2)])/\(∃R Q,Qx w' f l R (ns.length+1) Q (ns++ [fV c]))/\Nt f (.slice z y s) w w':=by
 obtain⟨i0,hi,L,M,N⟩:=info_parts CJ;obtain⟨m,d⟩:=hk;obtain⟨j,cn,k⟩:=c;simp only at V X hl ⊢;have K:=af m;have h:=az w (.cells #[.int .i64 j,.int .i64 cn,.string (aa k)] 56) (aC 0 0 ⟨#[]⟩);have O:((w.alloc (.cells #[.int .i64 j,.int .i64 cn,.string (aa k)] 56)).alloc (aC 0 0 ⟨#[]⟩)).heap[w.heap.size]? =some (.cells #[.int .i64 j,.int .i64 cn,.string (aa k)] 56):=(heap_alloc _ _ _ (by simp[size_alloc])).trans (heap_alloc_new w _);have k1:((w.alloc (.cells #[.int .i64 j,.int .i64 cn,.string (aa k)] 56)).alloc (aC 0 0 ⟨#[]⟩)).heap[w.heap.size+1]? =some (aC 0 0 ⟨#[]⟩):=by
  have:=heap_alloc_new (w.alloc (.cells #[.int .i64 j,.int .i64 cn,.string (aa k)] 56)) (aC 0 0 ⟨#[]⟩);rw[size_alloc]at this;exact this
 obtain⟨W,F⟩:∃W,W=(w.alloc (.cells #[.int .i64 j,.int .i64 cn,.string (aa k)] 56)).alloc (aC 0 0 ⟨#[]⟩):=⟨_,rfl⟩;have G:W.heap.size=w.heap.size+2:=by rw[F];simp[size_alloc]
 obtain⟨S,E⟩:∃t,t=fV (j,cn,k):=⟨_,rfl⟩;have T:=λ(x:World) (hx:Below W.heap.size W x)=>Mi j cn k x (iR (iR Y (by rw[<-F]at h;exact h)) hx) V X hl;simp only[<-E]at T ⊢;go_enter Tryz.func253,Tryz.ntmps253;go_upto_region 1 with fail
 rw[<-F]at O k1 h ⊢;have C:=(h.block f K).trans m;obtain⟨e0,_,e1,_⟩:=jq C;obtain⟨⟨z0,z1,z2⟩,_⟩:=aJ O;have H:(slice z y s).ownBlock≠some f:=λe=>by have:=(d.lt _ e).1;omega
 have n:f<W.heap.size:=by omega
 have i:w.heap.size<W.heap.size:=by omega
 have I:(slice z y s).ownBlock≠some w.heap.size:=λe=>by have:=(d.lt _ e).2;omega
 have J:(slice z y s).ownBlock≠some (w.heap.size+1):=λe=>by have:=(d.lt _ e).2;omega
 have D:w.heap.size+1<W.heap.size:=by omega
 clear F E Y;have A:∀(w2:World),Below W.heap.size W w2->∀o:Obj,(w2.alloc o).drew.ownsRow (f+1) 9 1 (.slice z y s) ns.length (bD ns):=λw2 a o=>
  World.ownsRow.drew (World.ownsRow.alloc (aA d λg Z=>(a.block g (by have:=(d.lt g Z).2;omega)).trans (h.block g (d.lt g Z).2)) o)
 go_region_law
  (first
   |(refine step_append_lies _ rfl (.tmp 9) (.tmp 12) 52 rfl (f+1) 9 i0 _ 1 16 Tryz.underlying52 hi L M N rfl (by decide) (.slice z y s) ns.length (bD ns) (by simp[Act.eval]) (A _ a _) ⟨w2.heap.size,0,none⟩ 1 1 [.string (aa S)] (by simp[Act.eval]) rfl (World.news_of_block (KW w2 _)) (by intro u hu;simp at hu;subst hu;rfl) (by decide) (by unfold maxLen;omega) (by omega) (by simp;omega) (w2.heap.size+1) (by simp) ?_;intro g7 U w7 q b B a0;have P:w7.heap[f]? =_:=(b.block f (by simp;omega) H.symm).trans ((heap_alloc _ _ _ m1).trans ((a.block f n).trans C));have kC:w7.heap[w.heap.size]? =_:=(b.block w.heap.size (by simp;omega) I.symm).trans ((heap_alloc _ _ _ m0).trans ((a.block _ i).trans O));obtain⟨v0,a7,v1,a8⟩:=jq P;obtain⟨⟨v2,v3,v4⟩,_⟩:=aJ kC;have a1:=af P;have a2:=af kC)
   |(go_simp;go_at_call 298;refine(T _ ?_).mono ?_;exact(refl W.heap.size W).drew;rintro e w2 ⟨rfl,a⟩;replace a:=iA a;have y1:=(a.cell (p:=⟨f,1,none⟩) n).trans e1;have y2:=(a.cell (p:=⟨w.heap.size,0,none⟩) i).trans z0;have y3:=(a.cell (p:=⟨w.heap.size,1,none⟩) i).trans z1;have y4:=(a.cell (p:=⟨w.heap.size,2,none⟩) i).trans z2;have r:=a.size;have m1:=lt_of_lt_of_le n r;have m0:=lt_of_lt_of_le i r;have KA:=λo:Obj=>KZ (o:=o) m0 y2 y3 y4;have KC:=λo:Obj=>((ae w2 o).cell (p:=⟨f,1,none⟩) m1).trans y1))
 all_goals
  have kR:w7.heap[w.heap.size+1]? =_:=(b.block (w.heap.size+1) (by simp;omega) J.symm).trans ((heap_alloc _ _ _ (lt_of_lt_of_le D r)).trans ((a.block _ D).trans k1));obtain⟨⟨r0,r1,r2⟩,a4,a5,a6⟩:=aJ kR;have a3:=af kR
  go_wp2_with fail
 all_goals
  refine bodyPost_ret (v:=.agg #[.int .i64 j,.int .i64 cn,.string (aa k)]) (by simp[results,Tryz.results253,go_sem,r0,r1,r2]) rfl ⟨rfl, ?_⟩;obtain⟨A1,A2⟩:=Pd m d h G a b q B P;exact⟨⟨_,_,A1⟩,A2⟩
theorem Ug{w:World}{d:Nat}{a:Bs}{ns:List Bs}(m:Wk w d a ns)(l:sJ w)(c:au)(hb:QE c=true)(t:ns.length<=1000000):
  Calls prog 253 #[.pointer (some ⟨d,0,none⟩),.agg #[.int .i64 c.1,.int .i64 c.2.1,.string (aa c.2.2)]] w λe w'=>e=.returned (.agg #[.int .i64 c.1,.int .i64 c.2.1,.string (aa c.2.2)])/\Wk w' d a (ns++ [fV c])/\Kn d w w':=by
 obtain⟨q,p,o,h⟩:=m;simp only[QE,Bool.and_eq_true,decide_eq_true_eq]at hb;refine(Pb w d a q p o ns h l c hb.1.1 hb.1.2 hb.2 (by omega)).mono λe w' ⟨k,⟨no',nc',h2⟩,h3⟩=>⟨k,⟨_,_,_,h2⟩,h3.1,λg j T r b t1 t2=>(h3.2 g (af b) (λe=> ?_) (λe=> ?_)).trans b⟩
 ·subst e;rw[h.1]at b;cases b;exact t2 rfl
 ·rcases h.2.2 with⟨f,_⟩|⟨s,cap,i,f,_,n,_⟩
  ·cases f;cases e
  ·cases f;cases e;rw[n]at b;cases b;exact t1 rfl
theorem vK(w:World)(v:Value)(cs:List au)(h:aR w v cs):
  Calls prog 338 #[v,.func (Fn.func 196) #[] #[]] w λe w'=>(∃i:Int,e=.returned (.int .i64 i)/\decide (0<=i)=bu cs)/\Below w.heap.size w w':=by
 obtain⟨D,cap,rfl,G,s⟩:=h;unfold maxLen at G;go_enter Tryz.func338,Tryz.ntmps338
 go_wp2_with fail
 go_loopw [8] (λt H=>∃i:Nat,i<=cs.length/\t=.int .i64 i/\Below w.heap.size w H/\Hid (bu cs=bu (cs.drop i))) (λt _=>cs.length- (intOf t).toNat)
 case atStart=>exact⟨0,Nat.zero_le _,rfl,refl _ _,rfl⟩
 case round=>
  obtain⟨i,I,rfl,d,q⟩:=hrel;have o:=d.size;by_cases f:i<cs.length
  ·obtain⟨b,a,rfl,hb,u⟩:∃b a,D=some ⟨b,a,none⟩/\b<w.heap.size/\∀(i:Nat) (c:au),cs[i]? =some c->w.cell? ⟨b,a+i*3,none⟩=some (.int .i64 c.1)/\w.cell? ⟨b,a+i*3+1,none⟩=some (.int .i64 c.2.1)/\w.cell? ⟨b,a+i*3+2,none⟩=some (.string (aa c.2.2)):=by
    rcases s with h|h
    ·subst h;simp at f
    ·exact h
   obtain⟨x,y,z⟩:=u i cs[i] (List.getElem?_eq_getElem f);have A:=(d.cell (p:=⟨b,a+i*3,none⟩) hb).trans x;have B:=(d.cell (p:=⟨b,a+i*3+1,none⟩) hb).trans y;have C:=(d.cell (p:=⟨b,a+i*3+2,none⟩) hb).trans z;have g:Hid (bu cs=((cs[i].1==0)||bu (cs.drop (i+1)))):=by rw[Hid,q.out,List.drop_eq_getElem_cons f,bu]
   obtain⟨E,m⟩:∃c,c=cs[i]:=⟨_,rfl⟩;rw[<-m]at A B C g;obtain⟨k,n,l⟩:=E;simp only at A B C g;have F:b<wr.heap.size:=by omega
   clear u s m q x y z
   cases r:(k==0)with
   |false=>
    have j:Hid (bu cs=bu (cs.drop (i+1))):=by rw[Hid,g.out,r];rfl
    clear g
    go_wp2_with(go_at_call 196;refine(kX _ _ _ _).mono ?_;rw[r];rintro e w2 ⟨rfl,hb2⟩)
    go_roundw
    case rel=>exact⟨i+1,by omega,by go_num,d.trans (hb2.mono o),j⟩
    case measure=>simp[intOf];omega
   |true=>
    have j:Hid (bu cs=true):=by rw[Hid,g.out,r];rfl
    clear g
    go_wp2_with(go_at_call 196;refine(kX _ _ _ _).mono ?_;rw[r];rintro e w2 ⟨rfl,hb2⟩)
    go_ret;exact⟨⟨_,rfl,by rw[j.out];simp⟩,d.trans (hb2.mono o)⟩
  ·have j:Hid (bu cs=false):=by rw[Hid,q.out,List.drop_of_length_le (by omega)];rfl
   clear q s
   go_wp2_with fail
   go_ret;exact⟨⟨_,rfl,by rw[j.out];rfl⟩,d⟩
theorem dP(w:World)(v:Value)(cs:List au)(h:aR w v cs):
  Calls prog 299 #[v,.func (Fn.func 196) #[] #[]] w λe w'=>e=.returned (.bool (bu cs))/\Below w.heap.size w w':=by
 have a:=vK w v cs h;go_enter Tryz.func299,Tryz.ntmps299
 go_wp2_with(go_at_call 338;refine a.mono ?_;rintro e w2 ⟨⟨i,rfl,hi⟩,hb2⟩)
 go_ret;exact⟨rfl,hb2⟩
theorem ED(h:Bs)(u:h= [61]\/h= [60]\/h= [60,61])(a b:au)(w:World):
  Calls prog 303 #[.string (aa h),.agg #[.int .i64 a.1,.int .i64 a.2.1,.string (aa a.2.2)],.agg #[.int .i64 b.1,.int .i64 b.2.1,.string (aa b.2.2)]] w λe w'=>(∃t:Bool,vB h (uj a b)=aW t/\e=.returned (.agg #[.int .i64 3,.int .i64 (gB t),.string ⟨#[]⟩]))/\Below w.heap.size w w':=by
 have o:=λx:World=>QO a b x;obtain⟨n,r⟩:∃n,n=uj a b:=⟨_,rfl⟩;simp only[<-r]at o ⊢;clear r;have j:=((az w (.cells #[.int .i64 a.1,.int .i64 a.2.1,.string (aa a.2.2)] 56) (.cells #[.int .i64 b.1,.int .i64 b.2.1,.string (aa b.2.2)] 56)).alloc (by simp[size_alloc];omega) (aC 0 0 ⟨#[]⟩));have f:=heap_alloc_new ((w.alloc (.cells #[.int .i64 a.1,.int .i64 a.2.1,.string (aa a.2.2)] 56)).alloc (.cells #[.int .i64 b.1,.int .i64 b.2.1,.string (aa b.2.2)] 56)) (aC 0 0 ⟨#[]⟩);simp only[size_alloc]at f;rcases u with rfl|rfl|rfl
 ·have l:aa [61]=⟨#[61]⟩:=rfl;rw[l];have k:Hid (vB [61] n=aW (n==0)):=rfl;go_enter Tryz.func303,Tryz.ntmps303
  go_wp2_with(first
   |(go_at_call 283;refine(o _).mono ?_;rintro e w2 ⟨rfl,hb2⟩;have g:=hb2.size;simp only[size_alloc]at g;have c:=(hb2.block _ (by simp only[size_alloc];omega)).trans f;have i:Below w.heap.size w w2:=j.trans (hb2.mono (by simp only[size_alloc];omega)))
   |(go_at_call 137;refine(cK _ _).mono ?_;rintro e s ⟨rfl,rfl⟩;obtain⟨⟨z0,m,z2⟩,p,g1,q⟩:=aJ c;have d:=af c))
  refine bodyPost_ret (v:=.agg #[.int .i64 3,.int .i64 (gB (n==0)),.string ⟨#[]⟩]) (by simp[results,Tryz.results303,go_sem,z0,m,z2,d]) rfl ⟨⟨n==0,k.out,rfl⟩, ?_⟩;exact(aI i (by omega) _ _ _).alloc (by simp only[size_setCell];exact i.size) _
 ·have l:aa [60]=⟨#[60]⟩:=rfl;rw[l];have k:Hid (vB [60] n=aW (decide (n<0))):=rfl;go_enter Tryz.func303,Tryz.ntmps303
  go_wp2_with(first
   |(go_at_call 283;refine(o _).mono ?_;rintro e w2 ⟨rfl,hb2⟩;have g:=hb2.size;simp only[size_alloc]at g;have c:=(hb2.block _ (by simp only[size_alloc];omega)).trans f;have i:Below w.heap.size w w2:=j.trans (hb2.mono (by simp only[size_alloc];omega)))
   |(go_at_call 137;refine(cK _ _).mono ?_;rintro e s ⟨rfl,rfl⟩;obtain⟨⟨z0,m,z2⟩,p,g1,q⟩:=aJ c;have d:=af c))
  refine bodyPost_ret (v:=.agg #[.int .i64 3,.int .i64 (gB (decide (n<0))),.string ⟨#[]⟩]) (by simp[results,Tryz.results303,go_sem,z0,m,z2,d]) rfl ⟨⟨decide (n<0),k.out,rfl⟩, ?_⟩;exact(aI i (by omega) _ _ _).alloc (by simp only[size_setCell];exact i.size) _
 ·have l:aa [60,61]=⟨#[60,61]⟩:=rfl;rw[l];have k:Hid (vB [60,61] n=aW (decide (n<=0))):=rfl;go_enter Tryz.func303,Tryz.ntmps303
  go_wp2_with(first
   |(go_at_call 283;refine(o _).mono ?_;rintro e w2 ⟨rfl,hb2⟩;have g:=hb2.size;simp only[size_alloc]at g;have c:=(hb2.block _ (by simp only[size_alloc];omega)).trans f;have i:Below w.heap.size w w2:=j.trans (hb2.mono (by simp only[size_alloc];omega)))
   |(go_at_call 137;refine(cK _ _).mono ?_;rintro e s ⟨rfl,rfl⟩;obtain⟨⟨z0,m,z2⟩,p,g1,q⟩:=aJ c;have d:=af c))
  refine bodyPost_ret (v:=.agg #[.int .i64 3,.int .i64 (gB (decide (n<=0))),.string ⟨#[]⟩]) (by simp[results,Tryz.results303,go_sem,z0,m,z2,d]) rfl ⟨⟨decide (n<=0),k.out,rfl⟩, ?_⟩;exact(aI i (by omega) _ _ _).alloc (by simp only[size_setCell];exact i.size) _
def qE(w:World)(v:au)(k:Int)(e:Ending)(w':World):Prop:=e=.returned (.tuple #[.agg #[.int .i64 v.1,.int .i64 v.2.1,.string (aa v.2.2)],.int .i64 k])/\Below w.heap.size w w'
theorem nH{w:World}{v:Value}{c:au}(h:aR w v [c]):∃b a cap,v=.slice (some ⟨b,a,none⟩) 1 cap/\b<w.heap.size/\∀x:World,Below w.heap.size w x->x.cell? ⟨b,a,none⟩=some (.int .i64 c.1)/\x.cell? ⟨b,a+1,none⟩=some (.int .i64 c.2.1)/\x.cell? ⟨b,a+2,none⟩=some (.string (aa c.2.2)):=by
 obtain⟨j,cap,rfl,_,h|⟨b,a,rfl,hb,i⟩⟩:=h
 ·simp at h
 ·obtain⟨e,f,g⟩:=i 0 c rfl;simp only[Nat.zero_mul,Nat.add_zero]at e f g;exact⟨b,a,cap,rfl,hb,λx d=>⟨(d.cell (p:=⟨b,a,none⟩) hb).trans e,(d.cell (p:=⟨b,a+1,none⟩) hb).trans f,(d.cell (p:=⟨b,a+2,none⟩) hb).trans g⟩⟩
theorem wG{w:World}{v:Value}{c d:au}(h:aR w v [c,d]):∃b a cap,v=.slice (some ⟨b,a,none⟩) 2 cap/\b<w.heap.size/\∀x:World,Below w.heap.size w x->(x.cell? ⟨b,a,none⟩=some (.int .i64 c.1)/\x.cell? ⟨b,a+1,none⟩=some (.int .i64 c.2.1)/\x.cell? ⟨b,a+2,none⟩=some (.string (aa c.2.2)))/\(x.cell? ⟨b,a+3,none⟩=some (.int .i64 d.1)/\x.cell? ⟨b,a+4,none⟩=some (.int .i64 d.2.1)/\x.cell? ⟨b,a+5,none⟩=some (.string (aa d.2.2))):=by
 obtain⟨l,cap,rfl,_,h|⟨b,a,rfl,hb,f⟩⟩:=h
 ·simp at h
 ·obtain⟨g,i,j⟩:=f 0 c rfl;obtain⟨k,r1,r2⟩:=f 1 d rfl;simp only[Nat.zero_mul,Nat.add_zero,Nat.one_mul,Nat.add_assoc]at g i j k r1 r2;exact⟨b,a,cap,rfl,hb,λx e=>⟨⟨(e.cell (p:=⟨b,a,none⟩) hb).trans g,(e.cell (p:=⟨b,a+1,none⟩) hb).trans i,(e.cell (p:=⟨b,a+2,none⟩) hb).trans j⟩,⟨(e.cell (p:=⟨b,a+3,none⟩) hb).trans k,(e.cell (p:=⟨b,a+4,none⟩) hb).trans r1,(e.cell (p:=⟨b,a+5,none⟩) hb).trans r2⟩⟩⟩
theorem VI(w:World)(o:Obj):Below w.heap.size w (w.alloc o)/\(w.alloc o).heap[w.heap.size]? =some o:=⟨ae w o,heap_alloc_new w o⟩
theorem lu(n:Int)(w:World):Calls prog 302 #[.int .i64 n] w λe w'=>e=.returned (.agg #[.int .i64 1,.int .i64 n,.string ⟨#[]⟩])/\w'=w.alloc (.cells #[.int .i64 1,.int .i64 n,.string ⟨#[]⟩] 56):=by
 go_enter Tryz.func302,Tryz.ntmps302
 go_wp2_with fail
 exact bodyPost_ret (v:=.agg #[.int .i64 1,.int .i64 n,.string ⟨#[]⟩]) (by simp[results,Tryz.results302,go_sem]) rfl ⟨rfl,rfl⟩
theorem HY(w:World)(v:Value)(c:au)(h:aR w v [c]):
  Calls prog 254 #[.string (aa nK),v] w λe w'=>qE w (aW (c.1==0)) 0 e w':=by
 obtain⟨b,o,cap,rfl,hb,k⟩:=nH h;obtain⟨l,s⟩:=VI w (aC 0 0 ⟨#[]⟩);obtain⟨p,q,r⟩:=k _ l;obtain⟨j,cn,cs⟩:=c;obtain⟨d,a⟩:∃d,d=(j==0):=⟨_,rfl⟩;simp only at p q r ⊢;rw[<-a];have g:=λx:World=>mU j cn (aa cs) x;rw[<-a]at g;have n:aa nK=⟨#[105,115,110,117,108,108]⟩:=rfl;rw[n];clear k h a;obtain⟨z,f⟩:∃z,z=gB d:=⟨_,rfl⟩;have i:=λx:World=>cK d x;have m:Hid (agg #[.int .i64 (aW d).1,.int .i64 (aW d).2.1,.string (aa (aW d).2.2)]=.agg #[.int .i64 3,.int .i64 z,.string ⟨#[]⟩]):=by rw[f];rfl
 rw[<-f]at i;clear f;go_enter Tryz.func254,Tryz.ntmps254
 go_wp2_with(first
  |(go_at_call 196;refine(g _).mono ?_;rintro e w2 ⟨rfl,rfl⟩)
  |(go_at_call 137;refine(i _).mono ?_;rintro e w2 ⟨rfl,rfl⟩))
 refine bodyPost_ret (v:=.tuple #[.agg #[.int .i64 3,.int .i64 z,.string ⟨#[]⟩],.int .i64 0]) (by simp[results,Tryz.results254,go_sem]) rfl ⟨by rw[m.out], ?_⟩;exact dA w _ _ _
theorem pW{w w2:World}(a:Below (w.alloc (aC 0 0 ⟨#[]⟩)).heap.size (w.alloc (aC 0 0 ⟨#[]⟩)) w2):Below w.heap.size w w2/\w2.heap[w.heap.size]? =some (aC 0 0 ⟨#[]⟩)/\w.heap.size<w2.heap.size:=by
 have b:=a.size;rw[size_alloc]at b;exact⟨(ae w _).trans (a.mono (by rw[size_alloc];omega)),(a.block _ (by rw[size_alloc];omega)).trans (heap_alloc_new w _),by omega⟩
theorem oC(w:World)(v:Value)(cs:List au)(h:aR w v cs)(d:bu cs=true)(a:Bs)(c:a≠nK):
  Calls prog 254 #[.string (aa a),v] w λe w'=>qE w bO 0 e w':=by
 have b:=dP (w.alloc (aC 0 0 ⟨#[]⟩)) v cs (h.ah (ae w _));rw[d]at b;obtain⟨m,cap,rfl,_,_⟩:=h;have t1:((aa a).toList== [105,115,110,117,108,108])=false:=by rw[aj];exact beq_eq_false_iff_ne.mpr c
 clear d c;go_enter Tryz.func254,Tryz.ntmps254
 go_wp2_with(go_at_call 299;refine b.mono ?_;rintro e w2 ⟨rfl,hb2⟩;obtain⟨f,g,l2⟩:=pW hb2;obtain⟨⟨i,r1,r2⟩,j,k,l⟩:=aJ g)
 refine bodyPost_ret (v:=.tuple #[.agg #[.int .i64 0,.int .i64 0,.string ⟨#[]⟩],.int .i64 0]) (by simp[results,Tryz.results254,go_sem,i,r1,r2]) rfl ⟨rfl, ?_⟩;exact aI f (le_refl _) _ _ _
theorem KQ(w:World)(v:Value)(c:au)(h:aR w v [c])(i:c.1≠0):
  Calls prog 254 #[.string (aa LB),v] w λe w'=>qE w (1,(c.2.2.length:Int),[]) 0 e w':=by
 have f:=dP (w.alloc (aC 0 0 ⟨#[]⟩)) v [c] (h.ah (ae w _));have j:bu [c]=false:=by simp[bu,i]
 rw[j]at f;obtain⟨b,o,cap,rfl,hb,l⟩:=nH h;obtain⟨t,cn,cs⟩:=c;have g:aa LB=⟨#[108,101,110]⟩:=rfl;have m:(aa cs).size=cs.length:=aF cs;rw[g];have d:=λx:World=>lu (cs.length:Int) x;clear j h i g;simp only;go_enter Tryz.func254,Tryz.ntmps254
 go_wp2_with(first
  |(go_at_call 299;refine f.mono ?_;rintro e w2 ⟨rfl,hb2⟩;obtain⟨a,n,l2⟩:=pW hb2;obtain⟨⟨p,r1,r2⟩,q,r,s⟩:=aJ n;obtain⟨u,y,z⟩:=l w2 a;have k:=lt_of_lt_of_le hb a.size)
  |(go_at_call 302;refine(d _).mono ?_;rintro e A ⟨rfl,rfl⟩))
 refine bodyPost_ret (v:=.tuple #[.agg #[.int .i64 1,.int .i64 (cs.length:Int),.string ⟨#[]⟩],.int .i64 0]) (by simp[results,Tryz.results254,go_sem,p,r1,r2,l2]) rfl ⟨rfl, ?_⟩;exact(aI a (le_refl _) _ _ _).alloc (by simp only[size_setCell];exact a.size) _
theorem KR(w:World)(v:Value)(c:au)(h:aR w v [c])(x:c.1≠0):
  Calls prog 254 #[.string (aa LC),v] w λe w'=>qE w (xN c) 0 e w':=by
 have m:=dP (w.alloc (aC 0 0 ⟨#[]⟩)) v [c] (h.ah (ae w _));have A:bu [c]=false:=by simp[bu,x]
 rw[A]at m;obtain⟨b,B,cap,rfl,hb,n⟩:=nH h;obtain⟨p,cn,cs⟩:=c;have u:aa LC=⟨#[110,111,116]⟩:=rfl;rw[u];clear A h u;simp only at x;by_cases z:p=3
 ·subst z;by_cases y:cn=0
  ·subst y;by_cases o:(aa cs).toList= []
   ·have f:Hid (xN (3,0,cs)=aW true):=by
     rw[aj]at o;subst o;rfl
    go_enter Tryz.func254,Tryz.ntmps254;go_upto_region 14 with(go_at_call 299;refine m.mono ?_;rintro e w2 ⟨rfl,hb2⟩;obtain⟨a,i,l2⟩:=pW hb2;obtain⟨⟨d,r1,r2⟩,j,k,l⟩:=aJ i;obtain⟨q,r,s⟩:=n w2 a;have g:=lt_of_lt_of_le hb a.size)
    go_region_with(go_at_call 137;refine(cK _ _).mono ?_;rintro e t ⟨rfl,rfl⟩);all_goals(go_wp2_with fail)
    all_goals
     refine bodyPost_ret (v:=.tuple #[.agg #[.int .i64 3,.int .i64 (gB true),.string ⟨#[]⟩],.int .i64 0]) (by first|(simp[results,Tryz.results254,go_sem,d,r1,r2,l2];done)|simp[results,Tryz.results254,go_sem,d,r1,r2,l2,gB]) rfl ⟨by rw[f.out];rfl, ?_⟩
     first
      |exact((aI a (le_refl _) _ _ _).alloc (by simp only[size_setCell];exact a.size) _).alloc (by simp only[size_alloc,size_setCell];have:=a.size;omega) _
      |exact(((aI a (le_refl _) _ _ _).alloc (by simp only[size_setCell];exact a.size) _).alloc (by simp only[size_alloc,size_setCell];have:=a.size;omega) _).drew
   ·have f:Hid (xN (3,0,cs)=aW false):=by
     rw[aj]at o;have:(((3,0,cs):au)==aW false)=false:=by simp[aW,gB,o]
     rw[Hid,xN,this]
    go_enter Tryz.func254,Tryz.ntmps254;go_upto_region 14 with(go_at_call 299;refine m.mono ?_;rintro e w2 ⟨rfl,hb2⟩;obtain⟨a,i,l2⟩:=pW hb2;obtain⟨⟨d,r1,r2⟩,j,k,l⟩:=aJ i;obtain⟨q,r,s⟩:=n w2 a;have g:=lt_of_lt_of_le hb a.size)
    go_region_with(go_at_call 137;refine(cK _ _).mono ?_;rintro e t ⟨rfl,rfl⟩);all_goals(go_wp2_with fail)
    all_goals
     refine bodyPost_ret (v:=.tuple #[.agg #[.int .i64 3,.int .i64 (gB false),.string ⟨#[]⟩],.int .i64 0]) (by first|(simp[results,Tryz.results254,go_sem,d,r1,r2,l2];done)|simp[results,Tryz.results254,go_sem,d,r1,r2,l2,gB]) rfl ⟨by rw[f.out];rfl, ?_⟩
     first
      |exact((aI a (le_refl _) _ _ _).alloc (by simp only[size_setCell];exact a.size) _).alloc (by simp only[size_alloc,size_setCell];have:=a.size;omega) _
      |exact(((aI a (le_refl _) _ _ _).alloc (by simp only[size_setCell];exact a.size) _).alloc (by simp only[size_alloc,size_setCell];have:=a.size;omega) _).drew
  ·have f:Hid (xN (3,cn,cs)=aW false):=by
    have:(((3,cn,cs):au)==aW false)=false:=by simp[aW,gB,y]
    rw[Hid,xN,this]
   go_enter Tryz.func254,Tryz.ntmps254;go_upto_region 14 with(go_at_call 299;refine m.mono ?_;rintro e w2 ⟨rfl,hb2⟩;obtain⟨a,i,l2⟩:=pW hb2;obtain⟨⟨d,r1,r2⟩,j,k,l⟩:=aJ i;obtain⟨q,r,s⟩:=n w2 a;have g:=lt_of_lt_of_le hb a.size)
   go_region_with(go_at_call 137;refine(cK _ _).mono ?_;rintro e t ⟨rfl,rfl⟩);all_goals(go_wp2_with fail)
   all_goals
    refine bodyPost_ret (v:=.tuple #[.agg #[.int .i64 3,.int .i64 (gB false),.string ⟨#[]⟩],.int .i64 0]) (by first|(simp[results,Tryz.results254,go_sem,d,r1,r2,l2];done)|simp[results,Tryz.results254,go_sem,d,r1,r2,l2,gB]) rfl ⟨by rw[f.out];rfl, ?_⟩
    first
     |exact((aI a (le_refl _) _ _ _).alloc (by simp only[size_setCell];exact a.size) _).alloc (by simp only[size_alloc,size_setCell];have:=a.size;omega) _
     |exact(((aI a (le_refl _) _ _ _).alloc (by simp only[size_setCell];exact a.size) _).alloc (by simp only[size_alloc,size_setCell];have:=a.size;omega) _).drew
 ·have f:Hid (xN (p,cn,cs)=aW false):=by
   have:(((p,cn,cs):au)==aW false)=false:=by simp[aW,gB,z]
   rw[Hid,xN,this]
  go_enter Tryz.func254,Tryz.ntmps254;go_upto_region 14 with(go_at_call 299;refine m.mono ?_;rintro e w2 ⟨rfl,hb2⟩;obtain⟨a,i,l2⟩:=pW hb2;obtain⟨⟨d,r1,r2⟩,j,k,l⟩:=aJ i;obtain⟨q,r,s⟩:=n w2 a;have g:=lt_of_lt_of_le hb a.size)
  go_region_with(go_at_call 137;refine(cK _ _).mono ?_;rintro e t ⟨rfl,rfl⟩);all_goals(go_wp2_with fail)
  all_goals
   refine bodyPost_ret (v:=.tuple #[.agg #[.int .i64 3,.int .i64 (gB false),.string ⟨#[]⟩],.int .i64 0]) (by first|(simp[results,Tryz.results254,go_sem,d,r1,r2,l2];done)|simp[results,Tryz.results254,go_sem,d,r1,r2,l2,gB]) rfl ⟨by rw[f.out];rfl, ?_⟩
   first
    |exact((aI a (le_refl _) _ _ _).alloc (by simp only[size_setCell];exact a.size) _).alloc (by simp only[size_alloc,size_setCell];have:=a.size;omega) _
    |exact(((aI a (le_refl _) _ _ _).alloc (by simp only[size_setCell];exact a.size) _).alloc (by simp only[size_alloc,size_setCell];have:=a.size;omega) _).drew
theorem KP(w:World)(v:Value)(a c:au)(h:aR w v [a,c])(o:a.1≠0)(j:c.1≠0)(f:Bs)(n:f= [61]\/f= [60]\/f= [60,61]):
  Calls prog 254 #[.string (aa f),v] w λe w'=>qE w (vB f (uj a c)) 0 e w':=by
 have l:=dP (w.alloc (aC 0 0 ⟨#[]⟩)) v [a,c] (h.ah (ae w _));have p:bu [a,c]=false:=by simp[bu,o,j]
 rw[p]at l;obtain⟨b,D,cap,rfl,hb,m⟩:=wG h;have k:=λx:World=>ED f n a c x;obtain⟨s,y,u⟩:=a;obtain⟨z,cn,A⟩:=c;simp only at k m;obtain⟨r,q⟩:∃r,r=vB f (uj (s,y,u) (z,cn,A)):=⟨_,rfl⟩;rw[<-q]at k ⊢;clear p h q o j;have i:aa f=⟨#[61]⟩\/aa f=⟨#[60]⟩\/aa f=⟨#[60,61]⟩:=by
  rcases n with rfl|rfl|rfl
  ·exact .inl rfl
  ·exact .inr (.inl rfl)
  ·exact .inr (.inr rfl)
 clear n;rcases i with i|i|i<;>rw[i]at k ⊢ <;>clear i
 all_goals
  go_enter Tryz.func254,Tryz.ntmps254;go_upto_region 17 with(go_at_call 299;refine l.mono ?_;rintro e w2 ⟨rfl,hb2⟩;obtain⟨g,C,l2⟩:=pW hb2;obtain⟨⟨L,M,N⟩,I,J,K⟩:=m w2 g;have B:=lt_of_lt_of_le hb g.size)
  clear l m hb2;go_region_with(go_at_call 303;refine(k _).mono ?_;rintro e O ⟨⟨t,ht,rfl⟩,d⟩;replace d:=iA d;obtain⟨⟨E,r1,r2⟩,F,G,H⟩:=aJ ((d.block _ l2).trans C);have l3:=lt_of_lt_of_le l2 d.size);all_goals(go_wp2_with fail)
  all_goals
   refine bodyPost_ret (v:=.tuple #[.agg #[.int .i64 3,.int .i64 (gB t),.string ⟨#[]⟩],.int .i64 0]) (by simp[results,Tryz.results254,go_sem,E,r1,r2]) rfl ⟨by rw[ht];rfl, ?_⟩
   first|exact aI (g.trans (d.mono g.size)) (le_refl _) _ _ _|exact(aI (g.trans (d.mono g.size)) (le_refl _) _ _ _).drew
theorem yw{a b:au}(h:a.1=0\/b.1=0):bu [a,b]=true:=by
 rcases h with h|h<;>simp[bu,h]
def Qe(k:Int)(c:au):au:=if k=0 then c else bO
theorem zW(k:Int)(c:au)(w:World):Calls prog 339 #[.int .i64 k,.agg #[.int .i64 c.1,.int .i64 c.2.1,.string (aa c.2.2)]] w λe w'=>qE w (Qe k c) k e w':=by
 by_cases h:k=0
 ·subst h;have a:Hid (Qe 0 c=c):=if_pos rfl;go_enter Tryz.func339,Tryz.ntmps339
  go_wp2_with fail
  refine bodyPost_ret (v:=.tuple #[.agg #[.int .i64 c.1,.int .i64 c.2.1,.string (aa c.2.2)],.int .i64 0]) (by simp[results,Tryz.results339,go_sem]) rfl ⟨by rw[a.out], ?_⟩;exact az w _ _
 ·have b:(k==0)=false:=by simpa using h
  have a:Hid (Qe k c=bO):=if_neg h;go_enter Tryz.func339,Tryz.ntmps339
  go_wp2_with fail
  refine bodyPost_ret (v:=.tuple #[.agg #[.int .i64 0,.int .i64 0,.string ⟨#[]⟩],.int .i64 k]) (by simp[results,Tryz.results339,go_sem]) rfl ⟨by rw[a.out];rfl, ?_⟩;exact az w _ _
abbrev nE(c:au):Value:=.agg #[.int .i64 c.1,.int .i64 c.2.1,.string (aa c.2.2)]
theorem yh{w w2:World}{o:Obj}(h:Below ((w.alloc (aC 0 0 ⟨#[]⟩)).alloc o).heap.size ((w.alloc (aC 0 0 ⟨#[]⟩)).alloc o) w2):Below w.heap.size w w2/\w2.heap[w.heap.size]? =some (aC 0 0 ⟨#[]⟩)/\w.heap.size<w2.heap.size:=by
 have k:=(h.block w.heap.size (by simp only[size_alloc];omega)).trans (((ae _ o).block w.heap.size (by simp only[size_alloc];omega)).trans (heap_alloc_new w _));exact⟨(az w _ _).trans (h.mono (by simp only[size_alloc];omega)),k,af k⟩
theorem Pf{a b:Int}(c:aP a=true)(hb:aP b=true):(-1000000000<=a/\a<=1000000000)/\(-1000000000<=b/\b<=1000000000)/\(-1000000000000000000<=a*b/\a*b<=1000000000000000000)/\(-1000000000<=a.tdiv b/\a.tdiv b<=1000000000):=by
 simp only[aP,Bool.and_eq_true,decide_eq_true_eq]at c hb;refine⟨c,hb, ?_, ?_⟩
 ·have d:(a*b).natAbs<=1000000000*1000000000:=by
   rw[Int.natAbs_mul];exact Nat.mul_le_mul (by omega) (by omega)
  omega
 ·have d:(a.tdiv b).natAbs<=a.natAbs:=by
   rw[Int.natAbs_tdiv];exact Nat.div_le_self _ _
  omega
theorem NR(c:Bs)(V:c= [43]\/c= [45]\/c= [42]\/c= [47])(a b:Int)(I:aP a=true)(J:aP b=true)(w:World):Calls prog 300 #[.string (aa c),.int .i64 a,.int .i64 b] w λe w'=>qE w (jC c a b).1 (jC c a b).2 e w':=by
 obtain⟨⟨L,M⟩,⟨N,O⟩,⟨R,S⟩,P,Q⟩:=Pf I J;obtain⟨r,D⟩:∃r,r=jC c a b:=⟨_,rfl⟩;rw[<-D];have B:Hid (r=jC c a b):=D;clear D I J;by_cases F:c= [47]/\b=0
 ·obtain⟨rfl,rfl⟩:=F;have K:Hid (r=(bO,10)):=by rw[Hid,B.out,jC,if_pos ⟨rfl,rfl⟩]
  have j:aa [47]=⟨#[47]⟩:=rfl;rw[j];clear B;go_enter Tryz.func300,Tryz.ntmps300
  go_wp2_with fail
  refine bodyPost_ret (v:=.tuple #[.agg #[.int .i64 0,.int .i64 0,.string ⟨#[]⟩],.int .i64 10]) (by simp[results,Tryz.results300,go_sem]) rfl ?_;rw[K.out];exact⟨rfl,ae w _⟩
 ·obtain⟨n,g⟩:∃n,n=Mj c a b:=⟨_,rfl⟩;obtain⟨G,m⟩:∃d,d=aP n:=⟨_,rfl⟩;obtain⟨k,C⟩:∃k,k=gG (!G) 11:=⟨_,rfl⟩;obtain⟨u,E⟩:∃u,u=Qe k (1,n,[]):=⟨_,rfl⟩;have i:Hid (r=(u,k)):=by
   rw[Hid,B.out,jC,if_neg F,<-g,E,C,<-m]
   cases G<;>rfl
  have y:=wN n;have x:=zW k (1,n,[]);have f:=gu (!G) 11;rw[<-m]at y;rw[<-C]at f;rw[<-E]at x;have A:Hid (n=Mj c a b):=g;have T:aa ([]:Bs)=⟨#[]⟩:=rfl;simp only[T]at x;clear B g m C E;rcases V with rfl|rfl|rfl|rfl
  ·have j:aa [43]=⟨#[43]⟩:=rfl;rw[j];have g:n=a+b:=A.out;subst g;go_enter Tryz.func300,Tryz.ntmps300
   go_wp2_with(first
    |(go_at_call 248;refine(y _).mono ?_;rintro e w2 ⟨rfl,rfl⟩)
    |(go_at_call 123;refine(f _).mono ?_;rintro e h ⟨rfl,rfl⟩)
    |(go_at_call 302;refine(lu _ _).mono ?_;rintro e h ⟨rfl,rfl⟩)
    |(go_at_call 339;refine(x _).mono ?_;rintro e h ⟨rfl,hb4⟩;obtain⟨l,o,H⟩:=yh hb4;obtain⟨⟨p,r1,r2⟩,q,s,t⟩:=aJ o))
   refine bodyPost_ret (v:=.tuple #[nE u,.int .i64 k]) (by simp[results,Tryz.results300,go_sem,p,r1,r2,nE]) rfl ?_;rw[i.out];exact⟨rfl,aI l (le_refl _) _ _ _⟩
  ·have j:aa [45]=⟨#[45]⟩:=rfl;rw[j];have g:n=a- b:=A.out;subst g;go_enter Tryz.func300,Tryz.ntmps300
   go_wp2_with(first
    |(go_at_call 248;refine(y _).mono ?_;rintro e w2 ⟨rfl,rfl⟩)
    |(go_at_call 123;refine(f _).mono ?_;rintro e h ⟨rfl,rfl⟩)
    |(go_at_call 302;refine(lu _ _).mono ?_;rintro e h ⟨rfl,rfl⟩)
    |(go_at_call 339;refine(x _).mono ?_;rintro e h ⟨rfl,hb4⟩;obtain⟨l,o,H⟩:=yh hb4;obtain⟨⟨p,r1,r2⟩,q,s,t⟩:=aJ o))
   refine bodyPost_ret (v:=.tuple #[nE u,.int .i64 k]) (by simp[results,Tryz.results300,go_sem,p,r1,r2,nE]) rfl ?_;rw[i.out];exact⟨rfl,aI l (le_refl _) _ _ _⟩
  ·have j:aa [42]=⟨#[42]⟩:=rfl;rw[j];have g:n=a*b:=A.out;subst g;go_enter Tryz.func300,Tryz.ntmps300
   go_wp2_with(first
    |(go_at_call 248;refine(y _).mono ?_;rintro e w2 ⟨rfl,rfl⟩)
    |(go_at_call 123;refine(f _).mono ?_;rintro e h ⟨rfl,rfl⟩)
    |(go_at_call 302;refine(lu _ _).mono ?_;rintro e h ⟨rfl,rfl⟩)
    |(go_at_call 339;refine(x _).mono ?_;rintro e h ⟨rfl,hb4⟩;obtain⟨l,o,H⟩:=yh hb4;obtain⟨⟨p,r1,r2⟩,q,s,t⟩:=aJ o))
   refine bodyPost_ret (v:=.tuple #[nE u,.int .i64 k]) (by simp[results,Tryz.results300,go_sem,p,r1,r2,nE]) rfl ?_;rw[i.out];exact⟨rfl,aI l (le_refl _) _ _ _⟩
  ·have j:aa [47]=⟨#[47]⟩:=rfl;rw[j];have g:n=a.tdiv b:=A.out;subst g;have z:b≠0:=λe=>F ⟨rfl,e⟩;have U:(b==0)=false:=by simpa using z
   go_enter Tryz.func300,Tryz.ntmps300
   go_wp2_with(first
    |(go_at_call 248;refine(y _).mono ?_;rintro e w2 ⟨rfl,rfl⟩)
    |(go_at_call 123;refine(f _).mono ?_;rintro e h ⟨rfl,rfl⟩)
    |(go_at_call 302;refine(lu _ _).mono ?_;rintro e h ⟨rfl,rfl⟩)
    |(go_at_call 339;refine(x _).mono ?_;rintro e h ⟨rfl,hb4⟩;obtain⟨l,o,H⟩:=yh hb4;obtain⟨⟨p,r1,r2⟩,q,s,t⟩:=aJ o))
   refine bodyPost_ret (v:=.tuple #[nE u,.int .i64 k]) (by simp[results,Tryz.results300,go_sem,p,r1,r2,nE]) rfl ?_;rw[i.out];exact⟨rfl,aI l (le_refl _) _ _ _⟩
theorem Cs(B b:Nat)(a:List Value)(w:World)(h:Lib.IsBuilderF 176 5 B b a w):Calls prog 340 #[.pointer (some ⟨b,0,none⟩)] w λe w'=>e=.returned (.int .i64 (a.length:Int))/\w'=w:=by
 obtain⟨p,v,c,d⟩:∃p v,w.heap[b]? =some (.cells #[p,v] 176 (0,0))/\w.ownsRowF B 5 1 v a.length a:=by
  rcases h with⟨_,v,i,j,_⟩|⟨_,v,i,j,_⟩
  ·exact⟨_,v,i,j⟩
  ·exact⟨_,v,i,j⟩
 obtain⟨f,cap,rfl⟩:∃f cap,v=.slice f a.length cap:=by
  rcases d.2 with⟨k,m⟩|⟨g,cap,l,o,k,_⟩
  ·exact⟨_,_,by rw[k,m]⟩
  ·exact⟨_,_,k⟩
 have n:w.cell? ⟨b,1,none⟩=some (.slice f a.length cap):=by rw[Lib.cell_of_heap c];rfl
 have q:=af c;go_enter Tryz.func340,Tryz.ntmps340
 go_wp2_with fail
 go_ret;exact⟨rfl,rfl⟩
theorem Bb(s:ByteArray)(w:World):Calls prog 197 #[.string s] w λe w'=>e=.returned (.agg #[.int .i64 2,.int .i64 0,.string s])/\w'=w.alloc (.cells #[.int .i64 2,.int .i64 0,.string s] 56):=by
 go_enter Tryz.func197,Tryz.ntmps197
 go_wp2_with fail
 exact bodyPost_ret (v:=.agg #[.int .i64 2,.int .i64 0,.string s]) (by simp[results,Tryz.results197,go_sem]) rfl ⟨rfl,rfl⟩
theorem qF:∀ {cs:List au},jU cs=true->(lS cs).length<=1000*cs.length
 | [],_=>by simp[lS]
 |c::cs,h=>by
  simp only[jU,List.all_cons,Bool.and_eq_true,decide_eq_true_eq]at h;have:=qF (cs:=cs) h.2;simp only[lS,List.length_append,List.length_cons];omega
theorem rz(cs:List au)(i:Nat)(a:i<cs.length):lS (cs.take (i+1))=lS (cs.take i)++cs[i].2.2:=by
 induction cs generalizing i with
 |nil=>simp at a
 |cons c cs ih=>
  cases i with
  |zero=>simp[lS]
  |succ i=>simp only[List.take_succ_cons,lS,List.getElem_cons_succ,List.append_assoc];rw[ih i (by simpa using a)]
theorem zN{cs:List au}(h:jU cs=true)(i:Nat):jU (cs.take i)=true:=by
 simp only[jU,List.all_eq_true]at h ⊢;exact λx a=>h x (List.mem_of_mem_take a)
theorem QL(w:World)(v:Value)(cs:List au)(h:aR w v cs)(hl:cs.length<=1000)(R:jU cs=true):Calls prog 301 #[v] w λe w'=>qE w (sO cs).1 (sO cs).2 e w':=by
 obtain⟨ao,cap,rfl,a2,L⟩:=h;obtain⟨r,I⟩:∃r,r=sO cs:=⟨_,rfl⟩;rw[<-I];have P:Hid (r=sO cs):=I;have A:Hid (jU cs=true):=R;have f:=Aj (w.alloc (aC 0 0 ⟨#[]⟩));simp only[size_alloc]at f;have m:((w.alloc (aC 0 0 ⟨#[]⟩)).alloc (.cells #[.pointer none,.slice none 0 0] 176)).heap[w.heap.size]? =some (aC 0 0 ⟨#[]⟩):=((ae _ _).block w.heap.size (by simp only[size_alloc];omega)).trans (heap_alloc_new w _);have x:=az w (aC 0 0 ⟨#[]⟩) (.cells #[.pointer none,.slice none 0 0] 176);clear I R;go_enter Tryz.func301,Tryz.ntmps301
 go_wp2_with fail
 obtain⟨W,D⟩:∃W,W=(w.alloc (aC 0 0 ⟨#[]⟩)).alloc (.cells #[.pointer none,.slice none 0 0] 176):=⟨_,rfl⟩;have a0:W.heap.size=w.heap.size+2:=by rw[D];simp[size_alloc]
 rw[<-D]at f m x ⊢;clear D;go_loopw [9] (λM wr=>∃i:Nat,i<=cs.length/\M=.int .i64 i/\Lib.IsBuilderF 176 5 (w.heap.size+1) (w.heap.size+1) (Lib.byteCells (lS (cs.take i))) wr/\Below (w.heap.size+1) W wr) (λM _=>cs.length- (intOf M).toNat)
 case atStart=>exact⟨0,Nat.zero_le _,rfl,by simpa[lS]using f,refl _ _⟩
 case round=>
  obtain⟨i,hi,rfl,hF,z⟩:=hrel;have a4:=z.size;have d:Below w.heap.size w wr:=x.trans (z.mono (by omega));have G:=(z.block w.heap.size (by omega)).trans m;clear f m;by_cases g:i<cs.length
  ·obtain⟨b,a,rfl,hb,Q⟩:∃b a,ao=some ⟨b,a,none⟩/\b<w.heap.size/\∀(i:Nat) (c:au),cs[i]? =some c->w.cell? ⟨b,a+i*3,none⟩=some (.int .i64 c.1)/\w.cell? ⟨b,a+i*3+1,none⟩=some (.int .i64 c.2.1)/\w.cell? ⟨b,a+i*3+2,none⟩=some (.string (aa c.2.2)):=by
    rcases L with h|h
    ·subst h;simp at g
    ·exact h
   obtain⟨T,U,V⟩:=Q i cs[i] (List.getElem?_eq_getElem g);have X:=(d.cell (p:=⟨b,a+i*3,none⟩) hb).trans T;have Y:=(d.cell (p:=⟨b,a+i*3+1,none⟩) hb).trans U;have Z:=(d.cell (p:=⟨b,a+i*3+2,none⟩) hb).trans V;have j:(lS (cs.take i)).length+cs[i].2.2.length<=2000000:=by
    have h1:=qF (zN A.out (i+1));rw[rz cs i g,List.length_append,List.length_take]at h1;omega
   have B:Hid (lS (cs.take (i+1))=lS (cs.take i)++cs[i].2.2):=rz cs i g;obtain⟨ck,y⟩:∃c,c=cs[i]:=⟨_,rfl⟩;rw[<-y]at X Y Z j B;obtain⟨k,n,l⟩:=ck;simp only at X Y Z j B;have a1:b<wr.heap.size:=by have:=d.size;omega
   have C:=AB (w.heap.size+1) (w.heap.size+1) _ (aa l) (wr.alloc (aC k n (aa l))) (hF.alloc _) (by rw[Lib.byteCells_length,aF];omega) (by simp only[size_alloc];omega);clear Q L y T U V hF
   go_wp2_with(go_at_call 104;refine C.mono ?_;rintro e w2 ⟨rfl,hF2,hb2, -⟩)
   go_roundw
   case rel=>
    refine⟨i+1,by omega,by go_num, ?_,z.trans ((((refl _ wr).alloc (by omega) _)).trans hb2)⟩;rw[B.out];have e:Lib.byteCells (lS (cs.take i)++l)=Lib.byteCells (lS (cs.take i))++Lib.strCells (aa l):=by
     rw[show Lib.strCells (aa l)=Lib.byteCells l from rfl];simp[Lib.byteCells]
    rw[e];exact .inr hF2
   case measure=>simp[intOf];omega
  ·have E:cs.take i=cs:=List.take_of_length_le (by omega);rw[E]at hF;have H:=qF A.out;obtain⟨s,o⟩:∃s,s=lS cs:=⟨_,rfl⟩;rw[<-o]at hF H;have N:=Cs _ _ _ _ hF;have q:=Tryz.Builder_String_any_k (w.heap.size+1) (w.heap.size+1) _ _ hF (by omega);rw[Lib.byteCells_length]at N;obtain⟨k,F⟩:∃k,k=gG (decide (30<(s.length:Int))) 12:=⟨_,rfl⟩;obtain⟨u,K⟩:∃u,u=Qe k (2,0,s):=⟨_,rfl⟩;have HR:Hid (r=(u,k)):=by
    rw[Hid,P.out,K,F,sO,<-o];by_cases h:30<s.length
    ·rw[if_pos h,show decide (30<(s.length:Int))=true by simp;omega];rfl
    ·rw[if_neg h,show decide (30<(s.length:Int))=false by simp;omega];rfl
   have t:=gu (decide (30<(s.length:Int))) 12;have O:=zW k (2,0,s);rw[<-F]at t;rw[<-K]at O;have J:(⟨s.toArray⟩:ByteArray)=aa s:=rfl;rw[J]at q;clear o F K P A L
   go_wp2_with(first
    |(go_at_call 340;refine N.mono ?_;rintro e w2 ⟨rfl,rfl⟩)
    |(go_at_call 123;refine(t _).mono ?_;rintro e w4 ⟨rfl,rfl⟩)
    |(go_at_call 57;refine q.mono ?_;rintro e w3 ⟨rfl, -,hb3, -⟩)
    |(go_at_call 197;refine(Bb _ _).mono ?_;rintro e w4 ⟨rfl,rfl⟩)
    |(go_at_call 339;refine(O _).mono ?_;rintro e w4 ⟨rfl,hb4⟩;have s3:=hb3.size;have S:=(hb4.block w.heap.size (by simp only[size_alloc];omega)).trans (((ae w3 _).block w.heap.size (by omega)).trans ((hb3.block w.heap.size (by omega)).trans G));have l4:=af S;obtain⟨⟨r0,r1,r2⟩,a5,a6,a7⟩:=aJ S))
   refine bodyPost_ret (v:=.tuple #[nE u,.int .i64 k]) (by simp[results,Tryz.results301,go_sem,r0,r1,r2,nE]) rfl ?_;rw[HR.out];have a3:=d.size;have B3:Below w.heap.size w w3:=d.trans (hb3.mono (by omega));exact⟨rfl,aI ((B3.alloc (by omega) _).trans (hb4.mono (by simp only[size_alloc];omega))) (le_refl _) _ _ _⟩
end Go.Proofs.YtdifpeaklamhnaaGreatDoor
