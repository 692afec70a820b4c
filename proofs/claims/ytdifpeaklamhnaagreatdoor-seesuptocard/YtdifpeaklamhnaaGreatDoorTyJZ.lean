import Derived.Test.YtdifpeaklamhnaaGreatDoorTyEZ
set_option linter.unusedVariables false
set_option linter.unusedSimpArgs false
set_option maxRecDepth 100000
set_option maxHeartbeats 0
namespace Go.Proofs.YtdifpeaklamhnaaGreatDoor
open Go.Proofs.Tryz
open Go.RowKit
open World (size_alloc setCell cell?_setCell_other drew)
open Below (heap_alloc heap_setCell alloc refl)
open Value (slice int)
def lY(fns:List Fn)(l:Bs)(size:Int)(q:Bool)(es:List Ex):Except Int Ex:=
 match bB fns l with
 |none=>.error 2
 |some i=>match fns[i]? with
  |none=>.error 2
  |some fn=>if es.map Ex.ty=fn.args then .ok (.mk 5 fn.body.ty (size+fn.body.size) (q&&fn.body.quiet) 0 0 [] 0 l (some i) es)else .error 3
def JU(w:World)(FB:List Nat)(fns:List Fn)(l:Bs)(size:Int)(q:Bool)(v:Value)(ks:List Int)(e:Ending)(w':World):Prop:=Below w.heap.size w w'/\
 ((bB fns l=none/\e=.returned (.tuple #[.agg #[.int .i64 0,.int .i64 0,.int .i64 0,.bool false,.int .i64 0,.int .i64 0,.string ⟨#[]⟩,.int .i64 0,.string ⟨#[]⟩,.pointer none,.slice none 0 0],.int .i64 2]))\/
  (∃(i qb:Nat) (fn:Fn),bB fns l=some i/\fns[i]? =some fn/\FB[i]? =some qb/\
   ((ks≠fn.args/\e=.returned (.tuple #[.agg #[.int .i64 0,.int .i64 0,.int .i64 0,.bool false,.int .i64 0,.int .i64 0,.string ⟨#[]⟩,.int .i64 0,.string ⟨#[]⟩,.pointer none,.slice none 0 0],.int .i64 3]))\/
   (ks=fn.args/\e=.returned (.tuple #[.agg #[.int .i64 5,.int .i64 fn.body.ty,.int .i64 (size+fn.body.size),.bool (q&&fn.body.quiet),.int .i64 0,.int .i64 0,.string ⟨#[]⟩,.int .i64 0,.string (aa l),.pointer (some ⟨qb,0,none⟩),v],.int .i64 0])))))
theorem Ov{fns:List Fn}{l:Bs}{i:Nat}(h:bB fns l=some i):i<fns.length:=by
 unfold bB at h;obtain⟨h,_⟩:=List.findIdx?_eq_some_iff_getElem.mp h;exact h
theorem mP.cells{w:World}{k:List Nat}{b:Nat}{fn:Fn}(h:mP w k b fn):∃a cap,bi w (.slice a fn.args.length cap) fn.args/\w.cell? ⟨b,1,none⟩=some (.slice a fn.args.length cap)/\
  w.cell? ⟨b,3,none⟩=some (.int .i64 fn.body.ty)/\w.cell? ⟨b,4,none⟩=some (.int .i64 fn.body.size)/\w.cell? ⟨b,5,none⟩=some (.bool fn.body.quiet):=by
 obtain⟨p,c,d,f,e,n⟩:=h;have j:=jr f e;obtain⟨a,cap,rfl⟩:=j.form;obtain⟨sort,ty,size,quiet,vk,vn,vs,place,head,q,o,fp,l,r,i,m,g,rfl,_⟩:=n.inv;refine⟨a,cap,j,(af d).trans rfl, ?_, ?_, ?_⟩
 ·rw[g];exact(af d).trans rfl
 ·rw[g];exact(af d).trans rfl
 ·rw[g];exact(af d).trans rfl
theorem fP{w w2:World}{o o' o2:Obj}(h:Below (((w.alloc o).alloc o').alloc o2).heap.size (((w.alloc o).alloc o').alloc o2) w2):
  w2.heap[w.heap.size]? =some o/\w2.heap[w.heap.size+1]? =some o'/\w2.heap[w.heap.size+2]? =some o2/\Below w.heap.size w w2/\w.heap.size+3<=w2.heap.size:=by
 have a:=h.size;have a1:=heap_alloc_new (w.alloc o) o';have a2:=heap_alloc_new ((w.alloc o).alloc o') o2;simp only[size_alloc]at a1 a2 a;refine⟨?_, ?_, ?_, ?_,by omega⟩
 ·exact(h.block _ (by simp only[size_alloc];omega)).trans ((heap_alloc _ _ _ (by simp only[size_alloc];omega)).trans ((heap_alloc _ _ _ (by simp only[size_alloc];omega)).trans (heap_alloc_new w o)))
 ·exact(h.block _ (by simp only[size_alloc];omega)).trans ((heap_alloc _ _ _ (by simp only[size_alloc];omega)).trans a1)
 ·exact(h.block _ (by simp only[size_alloc];omega)).trans a2
 ·exact((az w o o').alloc (by simp only[size_alloc];omega) _).trans (h.mono (by simp only[size_alloc];omega))
theorem NU(w:World)(C:List Nat)(co:Option Addr)(cn cc:Nat)(pv:Value)(po:Option Addr)(pn pc:Nat)(b1:pv=.slice po pn pc)(fo:Option Addr)(E fc:Nat)(fns:List Fn)(hF:iP w C (.slice fo E fc) fns)(a7:∀fn∈fns,0<=fn.body.size/\fn.body.size<=300)
  (l:Bs) (size:Int) (b6:0<=size) (b7:size<=1000000) (q:Bool) (s:Option Addr) (n cap:Nat) (M:List Ex) (h:lH w C (.slice s n cap) M) (a8:M.length<=1000):
  Calls prog 328 #[.agg #[.slice co cn cc,pv,.slice fo E fc],.agg #[.int .i64 0,.int .i64 0,.int .i64 size,.bool q,.int .i64 0,.int .i64 0,.string ⟨#[]⟩,.int .i64 0,.string (aa l),.pointer none,.slice s n cap]] w λe w'=>
   JU w C fns l size q (.slice s n cap) (M.map Ex.ty) e w':=by
 subst b1;have HT:∀x:World,Below w.heap.size w x->Calls prog 352 #[.slice s n cap] x λe w'=>∃v',e=.returned v'/\bi w' v' (M.map Ex.ty)/\Below x.heap.size x w':=
  λx hx=>Bq x C _ M (h.ag hx) a8
 have X:∀x:World,Below w.heap.size w x->Calls prog 122 #[.slice fo E fc,.string (aa l)] x λe w'=>(∃p,e=.returned (.pointer p)/\zL C (bB fns l) p)/\Below x.heap.size x w':=
  λx hx=>EL x C _ fns l (hF.ag hx)
 obtain⟨t,a5⟩:∃t,t=M.map Ex.ty:=⟨_,rfl⟩;rw[<-a5]at HT ⊢;clear a5 h;go_enter Tryz.func328,Tryz.ntmps328
 go_wp2_with(go_at_call 122;refine(X _ ?c1).mono ?_)
 case c1=>exact(az w _ _).alloc (by simp only[size_alloc];omega) _
 rintro e w2 ⟨⟨p,rfl,hp⟩,hb2⟩;obtain⟨a0,y,z,L,b8⟩:=fP hb2;clear hb2 X
 cases g:bB fns l with
 |none=>
  rw[g]at hp;have a9:p=none:=hp;subst a9;have HF:Hid (bB fns l=none):=g;obtain⟨⟨z0,H,z2,z3,z4,z5,I,J,K,z9,j⟩,g0,g1,g2,g3,g4,g5,g6,g7,g8,g9,F⟩:=bz z;clear g hp a0 y z HT hF
  go_wp2_with fail
  refine bodyPost_ret (v:=.tuple #[.agg #[.int .i64 0,.int .i64 0,.int .i64 0,.bool false,.int .i64 0,.int .i64 0,.string ⟨#[]⟩,.int .i64 0,.string ⟨#[]⟩,.pointer none,.slice none 0 0],.int .i64 2]) (by simp[results,Tryz.results328,go_sem,z0,H,z2,z3,z4,z5,I,J,K,z9,j]) rfl ⟨?_,.inl ⟨HF.out,rfl⟩⟩
  repeat(refine Below.setCell ?_ (by simp<;>omega) _)
  exact L
 |some i=>
  rw[g]at hp;obtain⟨a,hq,b0⟩:=hp;subst b0;have a6:=Ov g;obtain⟨fn,A⟩:∃fn,fns[i]? =some fn:=⟨_,List.getElem?_eq_getElem a6⟩;have G:mP w C a fn:=hF.choose_spec.choose_spec.2.2.2.2 i a fn hq A;have b5:a<w.heap.size:=by obtain⟨av,c,h1,_⟩:=G;exact ai h1
  have hA:=G.ag L;obtain⟨go,gc,hi,u1,u3,u4,u5⟩:=hA.cells;obtain⟨b2,b3⟩:=a7 fn (List.mem_of_getElem? A);have D:∀(e:Ending) (w':World),Below w.heap.size w w'->((t≠fn.args/\e=.returned (.tuple #[.agg #[.int .i64 0,.int .i64 0,.int .i64 0,.bool false,.int .i64 0,.int .i64 0,.string ⟨#[]⟩,.int .i64 0,.string ⟨#[]⟩,.pointer none,.slice none 0 0],.int .i64 3]))\/
    (t=fn.args/\e=.returned (.tuple #[.agg #[.int .i64 5,.int .i64 fn.body.ty,.int .i64 (size+fn.body.size),.bool (q&&fn.body.quiet),.int .i64 0,.int .i64 0,.string ⟨#[]⟩,.int .i64 0,.string (aa l),.pointer (some ⟨a,0,none⟩),.slice s n cap],.int .i64 0])))->Hid (JU w C fns l size q (.slice s n cap) t e w'):=
   λe w' hb h=>⟨hb,.inr ⟨i,a,fn,g,A,hq,h⟩⟩
  obtain⟨bt,a4⟩:∃x,x=fn.body.ty:=⟨_,rfl⟩;obtain⟨Z,a3⟩:∃x,x=fn.body.size:=⟨_,rfl⟩;obtain⟨bq,a2⟩:∃x,x=fn.body.quiet:=⟨_,rfl⟩;obtain⟨Y,a1⟩:∃x,x=fn.args:=⟨_,rfl⟩;rw[<-a4]at u3 D;rw[<-a3]at u4 D b2 b3;rw[<-a2]at u5 D;rw[<-a1]at hi u1 D;obtain⟨⟨N,O,P,Q,R,S,T,U,V,W,r⟩,f0,f1,f2,f3,f4,f5,f6,f7,f8,f9,f10⟩:=bz y;clear g hA G hF a7 A hq a4 a3 a2 a1 a0 a6;go_upto_region 4 with fail
  go_cut [23] (λb4 o=>b4=.bool (!decide (t=Y))/\Below w2.heap.size w2 o)
  case first=>
   go_region_with(first
    |(go_at_call 352;refine(HT _ ?_).mono ?_;exact L.drew;rintro e w3 ⟨v',rfl,hi3,m⟩;replace m:=jT m;obtain⟨ko,kc,rfl⟩:=hi3.form;have b9:=(m.cell (p:=⟨a,1,none⟩) (by show a<w2.heap.size;omega)).trans u1)
    |(go_at_call 354;refine(gQ _ _ _ t Y hi3 (hi.ag m)).mono ?_;rintro e w4 ⟨rfl,hb4⟩))
   all_goals(go_wp2_with fail;go_meet)
   all_goals exact⟨rfl,m.trans (hb4.mono m.size)⟩
  case rest=>
   obtain⟨rfl,f⟩:=hcut;have B:=f.size;have u:Below w.heap.size w wc:=L.trans (f.mono L.size);clear N O P Q R S T U V W r f0 f1 f2 f3 f4 f5 f6 f7 f8 f9 f10;have d:=(f.block _ (by omega)).trans y;have b:=(f.block _ (by omega)).trans z;obtain⟨⟨N,O,P,Q,R,S,T,U,V,W,r⟩,f0,f1,f2,f3,f4,f5,f6,f7,f8,f9,f10⟩:=bz d;obtain⟨⟨z0,H,z2,z3,z4,z5,I,J,K,z9,j⟩,g0,g1,g2,g3,g4,g5,g6,g7,g8,g9,F⟩:=bz b;have v3:=(f.cell (p:=⟨a,3,none⟩) (by show a<w2.heap.size;omega)).trans u3;have v4:=(f.cell (p:=⟨a,4,none⟩) (by show a<w2.heap.size;omega)).trans u4;have v5:=(f.cell (p:=⟨a,5,none⟩) (by show a<w2.heap.size;omega)).trans u5;have k:a≠w.heap.size+1:=by omega
   clear u1 u3 u4 u5 hi y z HT f L;by_cases hk:t=Y
   ·have hd:decide (t=Y)=true:=by simpa using hk
    rw[hd];clear hd;go_upto_region 8 with fail
    go_cut [] (λo=>Below w.heap.size w o/\o.heap[w.heap.size+1]? =some (.cells #[.int .i64 5,.int .i64 bt,.int .i64 size,.bool q,.int .i64 0,.int .i64 0,.string ⟨#[]⟩,.int .i64 0,.string (aa l),.pointer (some ⟨a,0,none⟩),.slice s n cap] 210 (0,0))/\o.heap[w.heap.size+2]? =some EJ/\o.cell? ⟨a,4,none⟩=some (.int .i64 Z)/\o.cell? ⟨a,5,none⟩=some (.bool bq))
    case first=>
     go_wp2_with fail
     go_meet;refine⟨?_, ?_, ?_, ?_, ?_⟩
     ·iterate 3 (refine Below.setCell ?_ (by simp) _)
      exact u
     ·simp[setCell,Array.getElem?_modify,d]
     ·rw[heap_setCell _ _ _ _ (by simp),heap_setCell _ _ _ _ (by simp),heap_setCell _ _ _ _ (by simp)];exact b
     ·simpa[cell?_setCell_other,k]using v4
     ·simpa[cell?_setCell_other,k]using v5
    case rest=>
     clear N O P Q R S T U V W r f0 f1 f2 f3 f4 f5 f6 f7 f8 f9 f10 z0 H z2 z3 z4 z5 I J K z9 j g0 g1 g2 g3 g4 g5 g6 g7 g8 g9 F v3 v4 v5 u B d b;obtain⟨u,d,b,v4,v5⟩:=hcut;have B:=ai b;obtain⟨⟨N,O,P,Q,R,S,T,U,V,W,r⟩,f0,f1,f2,f3,f4,f5,f6,f7,f8,f9,f10⟩:=bz d;go_upto_region 9 with fail
     go_cut [] (λo=>Below w.heap.size w o/\o.heap[w.heap.size+1]? =some (.cells #[.int .i64 5,.int .i64 bt,.int .i64 (size+Z),.bool q,.int .i64 0,.int .i64 0,.string ⟨#[]⟩,.int .i64 0,.string (aa l),.pointer (some ⟨a,0,none⟩),.slice s n cap] 210 (0,0))/\o.heap[w.heap.size+2]? =some EJ/\o.cell? ⟨a,4,none⟩=some (.int .i64 Z)/\o.cell? ⟨a,5,none⟩=some (.bool bq))
     case first=>
      go_region
      go_wp2_with fail
      go_meet;refine⟨(u.setCell (by simp) _).drew, ?_,(heap_setCell _ _ _ _ (by simp)).trans b, ?_, ?_⟩
      ·simp[setCell,drew,Array.getElem?_modify,d]
      ·simpa[cell?_setCell_other,k]using v4
      ·simpa[cell?_setCell_other,k]using v5
     case rest=>
      clear N O P Q R S T U V W r f0 f1 f2 f3 f4 f5 f6 f7 f8 f9 f10 v4 v5 u B d b;obtain⟨u,d,b,v4,v5⟩:=hcut;have B:=ai b;obtain⟨⟨N,O,P,Q,R,S,T,U,V,W,r⟩,f0,f1,f2,f3,f4,f5,f6,f7,f8,f9,f10⟩:=bz d;obtain⟨⟨z0,H,z2,z3,z4,z5,I,J,K,z9,j⟩,g0,g1,g2,g3,g4,g5,g6,g7,g8,g9,F⟩:=bz b
      cases q
      ·go_wp2_with fail
       refine bodyPost_ret (v:=.tuple #[.agg #[.int .i64 5,.int .i64 bt,.int .i64 (size+Z),.bool false,.int .i64 0,.int .i64 0,.string ⟨#[]⟩,.int .i64 0,.string (aa l),.pointer (some ⟨a,0,none⟩),.slice s n cap],.int .i64 0]) (by simp[results,Tryz.results328,go_sem,z0,H,z2,z3,z4,z5,I,J,K,z9,j]) rfl ((D _ _ ?_ (.inr ⟨hk,by simp⟩)).out)
       iterate 12 (refine Below.setCell ?_ (by simp<;>omega) _)
       exact u
      ·go_wp2_with fail
       refine bodyPost_ret (v:=.tuple #[.agg #[.int .i64 5,.int .i64 bt,.int .i64 (size+Z),.bool bq,.int .i64 0,.int .i64 0,.string ⟨#[]⟩,.int .i64 0,.string (aa l),.pointer (some ⟨a,0,none⟩),.slice s n cap],.int .i64 0]) (by simp[results,Tryz.results328,go_sem,z0,H,z2,z3,z4,z5,I,J,K,z9,j]) rfl ((D _ _ ?_ (.inr ⟨hk,by simp⟩)).out)
       iterate 12 (refine Below.setCell ?_ (by simp<;>omega) _)
       exact u
   ·have hd:decide (t=Y)=false:=by simpa using hk
    rw[hd];clear hd
    go_wp2_with fail
    refine bodyPost_ret (v:=.tuple #[.agg #[.int .i64 0,.int .i64 0,.int .i64 0,.bool false,.int .i64 0,.int .i64 0,.string ⟨#[]⟩,.int .i64 0,.string ⟨#[]⟩,.pointer none,.slice none 0 0],.int .i64 3]) (by simp[results,Tryz.results328,go_sem,z0,H,z2,z3,z4,z5,I,J,K,z9,j]) rfl ((D _ _ ?_ (.inl ⟨hk,rfl⟩)).out)
    repeat(refine Below.setCell ?_ (by simp<;>omega) _)
    exact u
def aG:List Ex->Int
 | []=>0
 |e::es=>e.size+aG es
def nR(fns:List Fn)(l:Bs)(es:List Ex):Except Int Ex:=
 if bM l then(if bL l (es.map Ex.ty)=0 then .error 3 else .ok (.mk 4 (bL l (es.map Ex.ty)) (1+aG es) (es.all Ex.quiet&& !fK l) 0 0 [] 0 l none es))
 else lY fns l (1+aG es) (es.all Ex.quiet) es
def uN(ps:List Int)(l:Bs):Except Int Ex:=
 match ps[(l.getD 1 0).toNat- 49]? with
 |none=>.error 2
 |some t=>.ok (qd t ((l.getD 1 0).toNat- 49:Nat))
abbrev Sc:=List (Bs × Int) × List Int
def oC(t:Int)(p:Nat):Ex:=.mk 2 t 1 true 0 0 [] p [] none []
def mo(ax:List (Bs × Int))(l:Bs):Option Nat:=ax.findIdx? (λc=>c.1==l)
def qH(ax:List (Bs × Int))(l:Bs):Except Int Ex:=match mo ax l with
 |none=>.error 2
 |some i=>match ax[i]? with
  |none=>.error 2
  |some c=>.ok (oC c.2 i)
def qz(fns:List Fn)(l:Bs)(o:Except Int (List Ex)):Except Int Ex:=match o with
 | .error e=>.error e
 | .ok es=>nR fns l es
mutual
def bg(atoi:Bs->Int)(ps:Sc)(fns:List Fn):Tr->Except Int Ex
 | .mk k tx br ops=>if br then qz fns tx (bY atoi ps fns ops)else if k=6 then qH ps.1 tx else if k=7 then uN ps.2 tx else .ok (cK atoi k tx)
def bY(atoi:Bs->Int)(ps:Sc)(fns:List Fn):List Tr->Except Int (List Ex)
 | []=>.ok []
 |t::ts=>match bg atoi ps fns t with
  | .error e=>.error e
  | .ok x=>match bY atoi ps fns ts with
   | .error e=>.error e
   | .ok xs=>.ok (x::xs)
end
def thenS(es:List Ex)(o:Except Int (List Ex)):Except Int (List Ex):=match o with
 | .error e=>.error e
 | .ok xs=>.ok (es++xs)
theorem Qf(a:Bs->Int)(ps:Sc)(fns:List Fn)(c:List Ex)(t:Tr)(b:List Tr)(x:Ex)(h:bg a ps fns t=.ok x):thenS c (bY a ps fns (t::b))=thenS (c++ [x]) (bY a ps fns b):=by
 rw[bY,h]
 cases bY a ps fns b<;>simp[thenS]
theorem Na(a:Bs->Int)(ps:Sc)(fns:List Fn)(b:List Ex)(t:Tr)(c:List Tr)(n:Int)(h:bg a ps fns t=.error n):thenS b (bY a ps fns (t::c))=.error n:=by
 rw[bY,h];rfl
theorem zz(a b:List Ex):aG (a++b)=aG a+aG b:=by
 induction a with
 |nil=>simp[aG]
 |cons x c ih=>simp[aG,ih];omega
theorem Tv:(Tryz.prog.info? 210).map (λi=>(i.zero,i.size,i.bytes))=some (some (.agg #[.int .i64 0,.int .i64 0,.int .i64 0,.bool false,.int .i64 0,.int .i64 0,.string ⟨#[]⟩,.int .i64 0,.string ⟨#[]⟩,.pointer none,.slice none 0 0]),11,120):=by kernel_rfl
theorem Ot{wr d W l:World}{n:List Nat}{m:Nat}{v v':Value}{cs c:List Value}{r:List Ex}{x:Ex}
  (z:m<wr.heap.size) (j:wr.ownsRow (m+1) 210 11 v r.length cs) (q:dD wr n (λg=>m<g/\v.ownBlock≠some g) cs r)
  (i:Below wr.heap.size wr d) (y:dJ d n (λg=>wr.heap.size<=g) c x)
  (s:d.heap.size<=W.heap.size/\∀g,g<d.heap.size->W.heap[g]? =d.heap[g]?)
  (p:W.grownBy l v.ownBlock) (h:v'.ownBlock=v.ownBlock\/v'.ownBlock=some W.heap.size):
  dD l n (λg=>m<g/\v'.ownBlock≠some g) (cs++c) (r++ [x])/\(∀g,g<wr.heap.size->v.ownBlock≠some g->l.heap[g]? =wr.heap[g]?):=by
 have B:=i.size;have ag:∀g,g<d.heap.size->v.ownBlock≠some g->l.heap[g]? =d.heap[g]? :=by
  intro g o u;rw[p.block g (by omega) (λe=>u e.symm),s.2 g o]
 have b:∀g,g<wr.heap.size->v.ownBlock≠some g->l.heap[g]? =wr.heap[g]? :=by
  intro g o w;rw[ag g (by omega) w,i.block g o]
 have k:∀g,v.ownBlock=some g->g<wr.heap.size:=λg a=>(j.lt g a).2;have A:=s.1;refine⟨dD.snoc ?_ ?_,b⟩
 ·refine q.bounded.move (λg a=>b g a.2 a.1.2) (λg a=>⟨a.1.1, ?_⟩);rcases h with e|e
  ·rw[e];exact a.1.2
  ·rw[e];intro f;have t:=Option.some.inj f;have:=a.2;omega
 ·refine y.bounded.move (λg a=>ag g a.2 (λe=>by have:=k g e;have:=a.1;omega)) (λg a=>⟨by have:=a.1;omega, ?_⟩);rcases h with e|e
  ·rw[e];intro f;have:=k g f;have:=a.1;omega
  ·rw[e];intro f;have t:=Option.some.inj f;have:=a.2;omega
mutual
inductive Fit(P:Int->Bs->Prop):Tr->Prop
 |mk {k:Int} {tx:Bs} {br:Bool} {ops:List Tr} :(br=false->P k tx)->Fits P ops->Fit P (.mk k tx br ops)
inductive Fits(P:Int->Bs->Prop):List Tr->Prop
 |nil:Fits P []
 |cons {t:Tr} {ts:List Tr} :Fit P t->Fits P ts->Fits P (t::ts)
end
theorem Fits.get{P:Int->Bs->Prop}{c:List Tr}(h:Fits P c)(i:Nat)(d:i<c.length):Fit P c[i]:=by
 induction c generalizing i with
 |nil=>simp at d
 |cons t c ih=>
  cases h with
  |cons a b=>
   cases i with
   |zero=>exact a
   |succ i=>simpa using ih b i (by simpa using d)
def iH(w:World)(v:Value)(ns:List (Bs × Int)):Prop:=∃ao cap,v=.slice ao ns.length cap/\ns.length<=1000/\(ns= []\/∃b,ao=some ⟨b,0,none⟩/\b<w.heap.size/\∀(i:Nat) (n:Bs × Int),ns[i]? =some n->w.cell? ⟨b,i*2,none⟩=some (.string (aa n.1))/\w.cell? ⟨b,i*2+1,none⟩=some (.int .i64 n.2))
theorem iH.ag{w x:World}{v:Value}{ns:List (Bs × Int)}(h:iH w v ns)(hb:Below w.heap.size w x):iH x v ns:=by
 obtain⟨d,cap,f,g,j⟩:=h;refine⟨d,cap,f,g, ?_⟩;rcases j with h|⟨b,e,hl,hc⟩
 ·exact .inl h
 ·refine .inr ⟨b,e,by have:=hb.size;omega,λi n k=> ?_⟩;obtain⟨a,c⟩:=hc i n k;exact⟨(hb.cell (p:=⟨b,_,none⟩) hl).trans a,(hb.cell (p:=⟨b,_,none⟩) hl).trans c⟩
theorem FE(w:World)(cap:Nat):iH w (.slice none 0 cap) []:=⟨none,cap,rfl,by simp,.inl rfl⟩
structure Ht(w:World)(FB:List Nat)(nv pv fv:Value)(ps:Sc)(fns:List Fn):Prop where
 ns:iH w nv ps.1
 ps:bi w pv ps.2
 fns:iP w FB fv fns
theorem Ht.ag{w x:World}{a:List Nat}{b c fv:Value}{ps:Sc}{fns:List Fn}(h:Ht w a b c fv ps fns)(hb:Below w.heap.size w x):Ht x a b c fv ps fns:=⟨h.ns.ag hb,h.ps.ag hb,h.fns.ag hb⟩
mutual
def uH:Tr->Nat
 | .mk _ _ _ ops=>1+fM ops
def fM:List Tr->Nat
 | []=>0
 |t::ts=>uH t+fM ts
end
theorem pM(a b:List Tr):fM (a++b)=fM a+fM b:=by
 induction a with
 |nil=>simp[fM]
 |cons x c ih=>simp[fM,ih];omega
theorem Jc(a:List Tr)(i:Nat)(h:i<a.length):fM (a.take (i+1))=fM (a.take i)+uH a[i]/\fM (a.take (i+1))<=fM a:=by
 have e:a.take (i+1)=a.take i++ [a[i]]:=List.take_succ_eq_append_getElem h;have b:=congrArg fM (List.take_append_drop (i+1) a);rw[pM]at b;refine⟨by rw[e,pM];simp[fM],by omega⟩
theorem Dc(a:Bs->Int)(k:Int)(l:Bs):(cK a k l).size=1:=by
 unfold cK;split
 ·rfl
 ·split
  ·rfl
  ·split<;>rfl
theorem Lx{fns:List Fn}(c:∀fn∈fns,0<=fn.body.size/\fn.body.size<=300){l:Bs}{a:List Ex}{x:Ex}(h:nR fns l a=.ok x)(d:0<=aG a):0<=x.size/\x.size<=301+aG a:=by
 unfold nR at h;split at h
 ·split at h
  ·cases h
  ·cases h;simp only[Ex.size];omega
 ·unfold lY at h;split at h
  ·cases h
  ·split at h
   ·cases h
   ·next fn b=>
    split at h
    ·cases h;have:=c fn (List.mem_of_getElem? b);show 0<=1+aG a+fn.body.size/\1+aG a+fn.body.size<=301+aG a;omega
    ·cases h
theorem wh(b:Bs->Int)(ps:Sc){fns:List Fn}(q:∀fn∈fns,0<=fn.body.size/\fn.body.size<=300)(N:Nat):∀(t:Tr),SizeOf.sizeOf t<=N->∀x,bg b ps fns t=.ok x->0<=x.size/\x.size<=301*uH t:=by
 induction N with
 |zero=>intro t e;obtain⟨k,r,p,g⟩:=t;simp at e
 |succ N ih=>
  have m:∀(d:List Tr),(∀t∈d,SizeOf.sizeOf t<=N)->∀c,bY b ps fns d=.ok c->0<=aG c/\aG c<=301*fM d:=by
   intro d
   induction d with
   |nil=>intro _ c h;rw[bY]at h;cases h;simp[aG,fM]
   |cons t d n=>
    intro f c h;rw[bY]at h;split at h
    ·cases h
    ·next x a=>
     split at h
     ·cases h
     ·next s l=>
      cases h;have o:=ih t (f t (by simp)) x a;have u:=n (λt e=>f t (by simp[e])) s l;simp only[aG,fM];omega
  intro t e x a;obtain⟨k,r,p,g⟩:=t;simp only[Tr.mk.sizeOf_spec]at e;rw[bg]at a;simp only[uH];split at a
  ·unfold qz at a;split at a
   ·cases a
   ·next c i=>
    have o:=m g (λt j=>by have:=List.sizeOf_lt_of_mem j;omega) c i;have:=Lx q a o.1;omega
  ·split at a
   ·unfold qH at a;split at a
    ·cases a
    ·split at a
     ·cases a
     ·cases a;simp only[oC,Ex.size];omega
   ·split at a
    ·unfold uN at a;split at a
     ·cases a
     ·cases a;simp only[qd,Ex.size];omega
    ·cases a;rw[Dc];omega
def DJ(atoi:Bs->Int)(P:Int->Bs->Prop)(N:Nat):Prop:=∀(t:Tr) (w:World) (FB:List Nat) (ps:Sc) (fns:List Fn) (qo:Option Addr) (qn qc:Nat) (po:Option Addr) (pn pc:Nat) (fo:Option Addr) (fnn fc:Nat) (c:Array Value),SizeOf.sizeOf t<=N->uH t<=1000->Fit P t->kQ w (λ_=>True) c.toList t->
 Ht w FB (.slice qo qn qc) (.slice po pn pc) (.slice fo fnn fc) ps fns->(∀fn∈fns,0<=fn.body.size/\fn.body.size<=300)->
 Calls prog 242 #[.agg #[.slice qo qn qc,.slice po pn pc,.slice fo fnn fc],.agg c] w λe w'=>sJ w FB (bg atoi ps fns t) e w'
theorem gH(x:World)(b:Nat)(a0 a1 a2 a3 a4 a5 c d e a9 a:Value)(g:Nat)(h:g≠b):(((((((((((x.setCell ⟨b,0,none⟩ a0).setCell ⟨b,1,none⟩ a1).setCell ⟨b,2,none⟩ a2).setCell ⟨b,3,none⟩ a3).setCell ⟨b,4,none⟩ a4).setCell ⟨b,5,none⟩ a5).setCell ⟨b,6,none⟩ c).setCell ⟨b,7,none⟩ d).setCell ⟨b,8,none⟩ e).setCell ⟨b,9,none⟩ a9).setCell ⟨b,10,none⟩ a).heap[g]? =x.heap[g]? :=by
 rw[heap_setCell _ _ _ _ h,heap_setCell _ _ _ _ h,heap_setCell _ _ _ _ h,heap_setCell _ _ _ _ h,heap_setCell _ _ _ _ h,heap_setCell _ _ _ _ h,heap_setCell _ _ _ _ h,heap_setCell _ _ _ _ h,heap_setCell _ _ _ _ h,heap_setCell _ _ _ _ h,heap_setCell _ _ _ _ h]
theorem bD{B:Nat}{a x:World}(h:Below B a x){b:Nat}(hb:B<=b)(a0 a1 a2 a3 a4 a5 d e f a9 c:Value):Below B a (((((((((((x.setCell ⟨b,0,none⟩ a0).setCell ⟨b,1,none⟩ a1).setCell ⟨b,2,none⟩ a2).setCell ⟨b,3,none⟩ a3).setCell ⟨b,4,none⟩ a4).setCell ⟨b,5,none⟩ a5).setCell ⟨b,6,none⟩ d).setCell ⟨b,7,none⟩ e).setCell ⟨b,8,none⟩ f).setCell ⟨b,9,none⟩ a9).setCell ⟨b,10,none⟩ c):=
 ((((((((((h.setCell hb _).setCell hb _).setCell hb _).setCell hb _).setCell hb _).setCell hb _).setCell hb _).setCell hb _).setCell hb _).setCell hb _).setCell hb _
theorem Ei{x:World}{b:Nat}{a0 a1 a2 a3 a4 a5 c d e a9 a:Value}{T:TypeId}{f:Nat × Nat}(h:x.heap[b]? =some (.cells #[a0,a1,a2,a3,a4,a5,c,d,e,a9,a] T f))(u s q:Value):
  (((x.setCell ⟨b,10,none⟩ u).setCell ⟨b,2,none⟩ s).setCell ⟨b,3,none⟩ q).heap[b]? =some (.cells #[a0,a1,s,q,a4,a5,c,d,e,a9,u] T f):=by
 simp[setCell,Array.getElem?_modify,h]
theorem tL(x:World)(b:Nat)(u s q:Value)(g:Nat)(h:g≠b):(((x.setCell ⟨b,10,none⟩ u).setCell ⟨b,2,none⟩ s).setCell ⟨b,3,none⟩ q).heap[g]? =x.heap[g]? :=by
 rw[heap_setCell _ _ _ _ h,heap_setCell _ _ _ _ h,heap_setCell _ _ _ _ h]
theorem Ka{B:Nat}{wr i:World}{d:List Nat}{c:Nat}{v:Value}{cs:List Value}{e:List Ex}(m:B<=c)(k:∀g,c<g->g<wr.heap.size->i.heap[g]? =wr.heap[g]?)
  (a:wr.ownsRow (c+1) 210 11 v e.length cs) (h:dD wr d (λg=>c<g/\v.ownBlock≠some g) cs e) (sort ty size:Int) (q:Bool) (l:Bs) {j:Option Nat} {fp:Option Addr} (f:zL d j fp):
  dJ i d (λg=>B<=g) [.int .i64 sort,.int .i64 ty,.int .i64 size,.bool q,.int .i64 0,.int .i64 0,.string ⟨#[]⟩,.int .i64 0,.string (aa l),.pointer fp,v] (.mk sort ty size q 0 0 [] 0 l j e):=by
 refine .mk (vs:=[]) (h.bounded.move (λg b=>k g b.1.1 b.2) (λg b=>by have:=b.1.1;omega)) (kw (aA a λg b=> ?_) λ_ _=>Nat.zero_le _) (λg b=> ?_) f
 ·have:=a.lt g b;exact k g (by omega) this.2
 ·have:=a.lt g b;omega
def UI(atoi:Bs->Int)(ps:Sc)(fns:List Fn)(FB:List Nat)(w:World)(Eb:Nat)(so:Obj)(tx:Bs)(ops:List Tr)(i:Nat)(wr:World):Prop:=
 ∃(es:List Ex) (ao:Option Addr) (n cap:Nat) (cs:List Value),es.length=i/\0<=aG es/\aG es<=301*fM (ops.take i)/\Hid (bY atoi ps fns ops=thenS es (bY atoi ps fns (ops.drop i)))/\Below w.heap.size w wr/\
  wr.heap[w.heap.size]? =some so/\wr.heap[w.heap.size+2]? =some EJ/\wr.heap[Eb]? =some (.cells #[.int .i64 0,.int .i64 0,.int .i64 (1+aG es),.bool (es.all Ex.quiet),.int .i64 0,.int .i64 0,.string ⟨#[]⟩,.int .i64 0,.string (aa tx),.pointer none,.slice ao n cap] 210 (0,0))/\
  wr.ownsRow (Eb+1) 210 11 (.slice ao n cap) es.length cs/\dD wr FB (λg=>Eb<g/\(slice ao n cap).ownBlock≠some g) cs es
theorem BU(m:Bs->Int)(P:Int->Bs->Prop)(N:Nat)(hN:DJ m P N)(k:Int)(r:Bs)(f:List Tr)(V:∀t∈f,SizeOf.sizeOf t<=N)(j9:fM f<=1000)(G:Fits P f)(w:World)(FB:List Nat)(ps:Sc)(fns:List Fn)(qo:Option Addr)(qn qc:Nat)(po:Option Addr)(pn pc:Nat)(fo:Option Addr)(z fc:Nat)
  (a4:Option Addr) (tn tc:Nat) (i8:tn=f.length) (h5:List Value) (hS:gB w (λ_=>True) h5 f) (M:w.ownsRow 0 96 4 (.slice a4 tn tc) f.length h5) (U:Ht w FB (.slice qo qn qc) (.slice po pn pc) (.slice fo z fc) ps fns) (hf:∀fn∈fns,0<=fn.body.size/\fn.body.size<=300):
  Calls prog 288 #[.agg #[.slice qo qn qc,.slice po pn pc,.slice fo z fc],.agg #[.int .i64 k,.string (aa r),.bool true,.slice a4 tn tc]] w λe w'=>sJ w FB (bg m ps fns (.mk k r true f)) e w':=by
 subst i8;obtain⟨i0,hi,j3,j4,j5⟩:=info_parts Tv;have j6:f.length<=1000:=by
  have:∀l:List Tr,l.length<=fM l:=by
   intro l
   induction l with
   |nil=>simp
   |cons t ts ih=>obtain⟨a,b,c,d⟩:=t;simp[fM,uH];omega
  have:=this f;omega
 have HT:Hid (bg m ps fns (.mk k r true f)=qz fns r (bY m ps fns f)):=by rw[Hid,bg,if_pos rfl]
 go_enter Tryz.func288,Tryz.ntmps288
 go_wp2_with fail
 go_loopw [18] (λiv wr=>∃i:Nat,i<=f.length/\iv=.int .i64 i/\UI m ps fns FB w (w.heap.size+3) (.cells #[.slice qo qn qc,.slice po pn pc,.slice fo z fc] 332 (0,0)) r f i wr) (λiv _=>f.length- (intOf iv).toNat)
 case atStart=>
  refine⟨0,Nat.zero_le _,rfl,[],none,0,0,[],rfl,by simp[aG],by simp[aG,fM], ?_, ?_, ?_, ?_, ?_,World.ownsRow_nil _ _ _ _,.nil⟩
  ·rw[Hid,List.drop_zero];cases bY m ps fns f<;>simp[thenS]
  ·iterate 4 (refine alloc ?_ (by simp[size_alloc];try omega) _)
   exact refl _ _
  ·exact(fP (ae _ _)).1
  ·exact(fP (ae _ _)).2.2.1
  ·have:=heap_alloc_new (((w.alloc (.cells #[.slice qo qn qc,.slice po pn pc,.slice fo z fc] 332)).alloc (.cells #[.int .i64 k,.string (aa r),.bool true,.slice a4 f.length tc] 96)).alloc EJ) (.cells #[.int .i64 0,.int .i64 0,.int .i64 1,.bool true,.int .i64 0,.int .i64 0,.string ⟨#[]⟩,.int .i64 0,.string (aa r),.pointer none,.slice none 0 0] 210);simp only[size_alloc]at this;exact this
 case round=>
  obtain⟨i,k8,rfl,s,ao,n,cap,cs,e0,l5,l7,HI,X,A,T,S,o,W⟩:=hrel;have e5:=ai S;by_cases J:i<f.length
  ·obtain⟨tg,rfl⟩:∃g,a4=some ⟨g,0,none⟩:=by
    rcases M.2 with⟨h,Q⟩|⟨g,a5,b6,h,_⟩
    ·omega
    ·cases h;exact⟨g,rfl⟩
   have i7:tg<w.heap.size:=(M.lt tg rfl).2;obtain⟨c,hc,c9⟩:=hS.get i J;obtain⟨k1,h6,b5,k3,b4,n1,a6,k5,i6,rfl,i2,_,_,_⟩:=hc.inv;have E:∀j u,j<4-> [int .i64 k1,.string (aa h6),.bool b5,.slice b4 n1 a6][j]? =some u->wr.cell? ⟨tg,i*4+j,none⟩=some u:=by
    intro j u I hu;have:=M.cells (g:=tg) rfl (i*4+j) u (by rw[c9 j I];exact hu);rw[Addr.add_lit]at this;exact(X.cell (p:=⟨tg,i*4+j,none⟩) i7).trans (by simpa using this)
   have q0:=E 0 _ (by omega) rfl;have q1:=E 1 _ (by omega) rfl;have q2:=E 2 _ (by omega) rfl;have q3:=E 3 _ (by omega) rfl;rw[Nat.add_zero]at q0;have k2:tg<wr.heap.size:=by omega
   have x0:wr.cell? ⟨w.heap.size,0,none⟩=some (.slice qo qn qc):=(af A).trans rfl;have x1:wr.cell? ⟨w.heap.size,1,none⟩=some (.slice po pn pc):=(af A).trans rfl;have x2:wr.cell? ⟨w.heap.size,2,none⟩=some (.slice fo z fc):=(af A).trans rfl;obtain⟨l4,l0⟩:=Jc f i J;have hd:f.drop i=f[i]::f.drop (i+1):=List.drop_eq_getElem_cons J;have HC:∀x:World,Below w.heap.size w x->Calls prog 242 #[.agg #[.slice qo qn qc,.slice po pn pc,.slice fo z fc],.agg #[.int .i64 k1,.string (aa h6),.bool b5,.slice b4 n1 a6]] x λe w'=>sJ x FB (bg m ps fns f[i]) e w':=by
    intro x hx;refine hN f[i] x FB ps fns qo qn qc po pn pc fo z fc _ (V _ (List.getElem_mem J)) ?_ (G.get i J) (hc.bounded.move (λg hg=>hx.block g hg.2) (λ_ _=>trivial)) (U.ag hx) hf;omega
   have h8:w.heap.size<wr.heap.size:=by omega
   clear E c9 hc i6 i2
   go_wp2_with(go_at_call 242;refine(HC _ ?c1).mono ?_)
   case c1=>exact X.alloc (by omega) _
   rintro e w5 ⟨a2,hres⟩;have i4:=a2.size;simp only[size_alloc]at i4;have F:Below wr.heap.size wr w5:=(ae wr _).trans (a2.mono (by simp[size_alloc]));have h7:w.heap.size+2<w5.heap.size:=by omega
   have k6:w.heap.size+3<w5.heap.size:=by omega
   have a8:=(F.block _ (by omega)).trans T;have a7:=(F.block _ (by omega)).trans S;have b8:=(F.block _ (by omega)).trans A;rcases hres with⟨n5,ho,e3,rfl⟩|⟨x,c5,ho,rfl,hx⟩
   ·have HF:Hid (bg m ps fns (.mk k r true f)=.error n5):=by
     rw[Hid,HT.out,HI.out,hd,Na m ps fns s _ _ n5 ho];rfl
    have k9:(n5==0)=false:=by simpa using e3
    have BX:Below w.heap.size w w5:=X.trans (F.mono X.size);obtain⟨⟨z0,z1,z2,z3,z4,z5,z6,z7,z8,z9,H⟩,g0,g1,g2,g3,g4,g5,g6,g7,g8,g9,b7⟩:=bz a8;clear HT HI ho HC hN V G hS M U hf o W A T S a7 b8 a8 x0 x1 x2 q0 q1 q2 q3 hd a2
    go_wp2_with fail
    refine bodyPost_ret (v:=.tuple #[.agg #[.int .i64 0,.int .i64 0,.int .i64 0,.bool false,.int .i64 0,.int .i64 0,.string ⟨#[]⟩,.int .i64 0,.string ⟨#[]⟩,.pointer none,.slice none 0 0],.int .i64 n5]) (by simp[results,Tryz.results288,go_sem,h7,z0,z1,z2,z3,z4,z5,z6,z7,z8,z9,H]) rfl ?_;refine⟨?_,.inl ⟨n5,HF.out,e3,rfl⟩⟩;refine alloc ?_ (by simp only[World.size_setCell];exact BX.size) _
    iterate 11 (refine Below.setCell ?_ (by simp<;>omega) _)
    exact BX
   ·obtain⟨sort,ty,size,quiet,vk,vn,vs,place,head,fi,k4,fp,xo,xn,xc,m1,b0,e9, -, -, -, -, -⟩:=hx.inv;have h9:c5= #[.int .i64 sort,.int .i64 ty,.int .i64 size,.bool quiet,.int .i64 vk,.int .i64 vn,.string (aa vs),.int .i64 place,.string (aa head),.pointer fp,.slice xo xn xc]:=by
     rw[<-Array.toList_inj];exact e9
    subst h9;have HN:Hid (bY m ps fns f=thenS (s++ [x]) (bY m ps fns (f.drop (i+1)))):=by
     rw[Hid,HI.out,hd,Qf m ps fns s _ _ x ho]
    have h4:=wh m ps hf N _ (V _ (List.getElem_mem J)) x ho;have b1:x.size=size:=by rw[b0];rfl
    have h3:x.quiet=quiet:=by rw[b0];rfl
    rw[b1]at h4;obtain⟨⟨y0,y1,y2,y3,y4,y5,y6,y7,y8,y9,a0⟩,f0,f1,f2,f3,f4,f5,f6,f7,f8,f9,f10⟩:=bz a7;clear HI ho HC hN V G hS M U hd
    go_wp2_with(at_builtin;refine wpList_append_own_at _ rfl (.tmp 33) (.tmp 35) 208 rfl (w.heap.size+3+1) 210 i0 (.agg #[.int .i64 0,.int .i64 0,.int .i64 0,.bool false,.int .i64 0,.int .i64 0,.string ⟨#[]⟩,.int .i64 0,.string ⟨#[]⟩,.pointer none,.slice none 0 0]) 11 120 Tryz.underlying208 hi j3 j4 j5 rfl (by decide) _ _ _ rfl ((aA o (x:=w5) ?c0).alloc _ |>.alloc _) ⟨w5.heap.size+1,0,none⟩ 1 1 [.int .i64 sort,.int .i64 ty,.int .i64 size,.bool quiet,.int .i64 vk,.int .i64 vn,.string (aa vs),.int .i64 place,.string (aa head),.pointer fp,.slice xo xn xc] rfl rfl ?c1 ?c2 ?c3 ?c4 ?c5 ?_)
    case c0=>intro q hq;exact F.block q (o.lt q hq).2
    case c1=>
     intro j u I
     match j,I with
     |0,I|1,I|2,I|3,I|4,I|5,I|6,I|7,I|8,I|9,I|10,I=>simp at I;subst I;simp[Addr.add]
    case c2=>intro u hu;simp at hu;rcases hu with rfl|rfl|rfl|rfl|rfl|rfl|rfl|rfl|rfl|rfl|rfl<;>rfl
    case c3=>unfold maxLen;omega
    case c4=>omega
    case c5=>simp;omega
    ·intro v' w6 K C _ b9;obtain⟨bo,bn,bc,rfl⟩:∃bo bn bc,v'=.slice bo bn bc:=by
      rcases K.2 with⟨e,_⟩|⟨q,a5,b6,e,_⟩<;>exact⟨_,_,_,e⟩
     have i9:(slice ao n cap).ownBlock≠some (w.heap.size+3):=λe=>by have:=(o.lt _ e).1;omega
     have j2:(slice ao n cap).ownBlock≠some w.heap.size:=λe=>by have:=(o.lt _ e).1;omega
     have j1:(slice ao n cap).ownBlock≠some (w.heap.size+2):=λe=>by have:=(o.lt _ e).1;omega
     have j0:(slice ao n cap).ownBlock≠some w5.heap.size:=λe=>by have:=(o.lt _ e).2;omega
     have e8:=hx.move (x:=w5) (S':=λg=>wr.heap.size<=g) (λ_ _=>rfl) (λg hg=>by simp only[size_alloc]at hg;omega);obtain⟨S1,S2⟩:=Ot e5 o W F e8 ⟨by simp only[size_alloc];omega,λg hg=>by rw[heap_alloc _ _ _ (by simp only[size_alloc];omega),heap_alloc _ _ _ hg]⟩ C (by simpa using b9);have kE:=(S2 _ e5 i9).trans S;have kR:=(S2 _ (by omega) j1).trans T;have kS:=(S2 _ h8 j2).trans A;have kO:=(C.block w5.heap.size (by simp only[size_alloc];omega) (λe=>j0 e.symm)).trans ((heap_alloc _ _ _ (by simp[size_alloc])).trans (heap_alloc_new w5 _));have RB:Below w.heap.size w w6:=(((X.trans (F.mono X.size)).alloc (by omega) _).alloc (by simp;omega) _).grown C (by simp;omega) (λk hk=>by have:=(o.lt k hk).1;omega);have l8:=ai kO;have j8:w5.heap.size≠w.heap.size+3:=by omega
     clear y0 y1 y2 y3 y4 y5 y6 y7 y8 y9 a0 f0 f1 f2 f3 f4 f5 f6 f7 f8 f9 f10;obtain⟨⟨y0,y1,y2,y3,y4,y5,y6,y7,y8,y9,a0⟩,f0,f1,f2,f3,f4,f5,f6,f7,f8,f9,f10⟩:=bz kE;obtain⟨⟨o0,o1,o2,o3,o4,o5,o6,o7,o8,o9,l9⟩,p0,p1,p2,p3,p4,p5,p6,p7,p8,p9,m0⟩:=bz kO;have R1:w6.ownsRow (w.heap.size+3+1) 210 11 (.slice bo bn bc) (s++ [x]).length (cs++ [.int .i64 sort,.int .i64 ty,.int .i64 size,.bool quiet,.int .i64 vk,.int .i64 vn,.string (aa vs),.int .i64 place,.string (aa head),.pointer fp,.slice xo xn xc]):=by rw[List.length_append,e0];exact K
     obtain⟨D,L⟩:∃D,D=s.all Ex.quiet:=⟨_,rfl⟩;have HQ:Hid ((s++ [x]).all Ex.quiet=(D&&quiet)):=by rw[Hid,List.all_append,L,<-h3];simp
     have HZ:Hid (1+aG (s++ [x])=1+aG s+size):=by rw[Hid,zz,<-b1];simp[aG];omega
     have e4:0<=aG (s++ [x])/\aG (s++ [x])<=301*fM (f.take (i+1)):=by have:=HZ.out;omega
     have k7:aG s<=301000:=by omega
     rw[<-L]at y3 kE;clear K C b9 o W hx e8 S2 S T A a7 a8 b8 F a2 L b0 e9 x0 x1 x2 q0 q1 q2 q3 h3 b1 HT
     cases D<;>
     ·go_wp2
      go_roundw
      case rel=>
       refine⟨i+1,by omega,by go_num,s++ [x],bo,bn,bc,_,by simp[e0],e4.1,e4.2,HN, ?_, ?_, ?_, ?_,ownsRow_setCell_below (ownsRow_setCell_below (ownsRow_setCell_below R1 (by simp) _) (by simp) _) (by simp) _,S1.move (λg hg=>tL _ _ _ _ _ _ (by have:=hg.1;omega)) (λg hg=>hg)⟩
       ·exact((RB.setCell (by simp<;>omega) _).setCell (by simp<;>omega) _).setCell (by simp<;>omega) _
       ·exact(tL _ _ _ _ _ _ (by omega)).trans kS
       ·exact(tL _ _ _ _ _ _ (by omega)).trans kR
       ·rw[HQ.out,HZ.out];exact Ei kE _ _ _
      case measure=>simp[intOf];omega
  ·have i1:f.drop i= []:=List.drop_of_length_le (by omega);have HF:Hid (bg m ps fns (.mk k r true f)=nR fns r s):=by
    rw[Hid,HT.out,HI.out,i1,bY,thenS,List.append_nil];rfl
   have j7:¬i<f.length:=J;have e1:s.length<=1000:=by omega
   have a1:lH wr FB (.slice ao n cap) s:=by
    refine⟨cs,ao,cap, ?_,kw o λ_ _=>Nat.zero_le _,W.move (λ_ _=>rfl) (λ_ _=>trivial)⟩;rcases o.2 with⟨e,Q⟩|⟨g,a5,b6,e,_⟩
    ·cases e;rw[Q]
    ·cases e;rfl
   have a9:Ht wr FB (.slice qo qn qc) (.slice po pn pc) (.slice fo z fc) ps fns:=U.ag X;have k0:aG s<=301000:=by
    have:fM (f.take i)<=fM f:=by
     have e2:=congrArg fM (List.take_append_drop i f);rw[pM]at e2;omega
    omega
   have R:∀x:World,Calls prog 240 #[.string (aa r)] x λe w'=>e=.returned (.bool (bM r))/\w'=x:=by
    intro x;have:=sj (aa r) x;rw[au]at this;exact this
   have x0:wr.cell? ⟨w.heap.size,0,none⟩=some (.slice qo qn qc):=(af A).trans rfl;have x1:wr.cell? ⟨w.heap.size,1,none⟩=some (.slice po pn pc):=(af A).trans rfl;have x2:wr.cell? ⟨w.heap.size,2,none⟩=some (.slice fo z fc):=(af A).trans rfl;obtain⟨⟨y0,y1,y2,y3,y4,y5,y6,y7,y8,y9,a0⟩,f0,f1,f2,f3,f4,f5,f6,f7,f8,f9,f10⟩:=bz S;obtain⟨D,L⟩:∃D,D=s.all Ex.quiet:=⟨_,rfl⟩;obtain⟨O,Z⟩:∃O,O=1+aG s:=⟨_,rfl⟩;rw[<-L]at y3;rw[<-Z]at y2;have e6:0<=O:=by omega
   have e7:O<=1000000:=by omega
   have b2:Hid (s.all Ex.quiet=D):=L.symm;have b3:Hid (1+aG s=O):=Z.symm;clear L Z
   cases hb:bM r with
   |true=>
    rw[hb]at R;have HC:=Em wr FB r hb O D ao n cap s a1 e1;have y:Hid (bg m ps fns (.mk k r true f)=if bL r (s.map Ex.ty)=0 then .error 3 else .ok (.mk 4 (bL r (s.map Ex.ty)) O (D&& !fK r) 0 0 [] 0 r none s)):=by
     rw[Hid,HF.out,nR,if_pos hb,b2.out,b3.out]
    obtain⟨t,ht⟩:∃t,t=bL r (s.map Ex.ty):=⟨_,rfl⟩;rw[<-ht]at HC y;clear hN V G hS M U hf HT HI HF a1 a9 ht
    go_wp2_with(first
     |(go_at_call 240;refine(R _).mono ?_;rintro e w6 ⟨rfl,rfl⟩)
     |(go_at_call 327;refine HC.mono ?_))
    rintro e w7 ⟨B,hres⟩;have i5:=B.size;have BX:Below w.heap.size w w7:=X.trans (B.mono X.size);obtain⟨⟨z0,z1,z2,z3,z4,z5,z6,z7,z8,z9,H⟩,g0,g1,g2,g3,g4,g5,g6,g7,g8,g9,b7⟩:=bz ((B.block _ (by omega)).trans T);clear HC R y0 y1 y2 y3 y4 y5 y6 y7 y8 y9 a0 f0 f1 f2 f3 f4 f5 f6 f7 f8 f9 f10 x0 x1 x2;rcases hres with⟨Q,rfl⟩|⟨Q,rfl⟩
    ·have HE:Hid (bg m ps fns (.mk k r true f)=.error 3):=by rw[Hid,y.out,if_pos Q]
     clear y
     go_wp2_with fail
     refine bodyPost_ret (v:=.tuple #[.agg #[.int .i64 0,.int .i64 0,.int .i64 0,.bool false,.int .i64 0,.int .i64 0,.string ⟨#[]⟩,.int .i64 0,.string ⟨#[]⟩,.pointer none,.slice none 0 0],.int .i64 3]) (by simp[results,Tryz.results288,go_sem,z0,z1,z2,z3,z4,z5,z6,z7,z8,z9,H]) rfl ⟨?_,.inl ⟨3,HE.out,by decide,rfl⟩⟩;exact bD BX (by omega) _ _ _ _ _ _ _ _ _ _ _
    ·have HE:Hid (bg m ps fns (.mk k r true f)=.ok (.mk 4 t O (D&& !fK r) 0 0 [] 0 r none s)):=by rw[Hid,y.out,if_neg Q]
     clear y
     go_wp2_with fail
     refine bodyPost_ret (v:=.tuple #[.agg #[.int .i64 4,.int .i64 t,.int .i64 O,.bool (D&& !fK r),.int .i64 0,.int .i64 0,.string ⟨#[]⟩,.int .i64 0,.string (aa r),.pointer none,.slice ao n cap],.int .i64 0]) (by simp[results,Tryz.results288,go_sem,z0,z1,z2,z3,z4,z5,z6,z7,z8,z9,H]) rfl ⟨?_,.inr ⟨_,_,HE.out,rfl, ?_⟩⟩
     ·exact bD BX (by omega) _ _ _ _ _ _ _ _ _ _ _
     ·exact Ka (by omega) (λg h1 h2=>(gH _ _ _ _ _ _ _ _ _ _ _ _ _ _ (by omega)).trans (B.block g h2)) o W 4 t O (D&& !fK r) r rfl
   |false=>
    rw[hb]at R;have HC:=NU wr FB qo qn qc (.slice po pn pc) po pn pc rfl fo z fc fns a9.fns hf r O e6 e7 D ao n cap s a1 e1;have y:Hid (bg m ps fns (.mk k r true f)=lY fns r O D s):=by
     rw[Hid,HF.out,nR,if_neg (by rw[hb];exact Bool.false_ne_true),b2.out,b3.out]
    clear hN V G hS M U hf HT HI HF a1 a9
    go_wp2_with(first
     |(go_at_call 240;refine(R _).mono ?_;rintro e w6 ⟨rfl,rfl⟩)
     |(go_at_call 328;refine HC.mono ?_))
    rintro e w7 ⟨B,hres⟩;have i5:=B.size;have BX:Below w.heap.size w w7:=X.trans (B.mono X.size);obtain⟨⟨z0,z1,z2,z3,z4,z5,z6,z7,z8,z9,H⟩,g0,g1,g2,g3,g4,g5,g6,g7,g8,g9,b7⟩:=bz ((B.block _ (by omega)).trans T);clear HC R y0 y1 y2 y3 y4 y5 y6 y7 y8 y9 a0 f0 f1 f2 f3 f4 f5 f6 f7 f8 f9 f10 x0 x1 x2;rcases hres with⟨Q,rfl⟩|⟨fi,qb,fn,Q,a3,i3,⟨Y,rfl⟩|⟨Y,rfl⟩⟩
    ·have HE:Hid (bg m ps fns (.mk k r true f)=.error 2):=by rw[Hid,y.out,lY,Q]
     clear y Q
     go_wp2_with fail
     refine bodyPost_ret (v:=.tuple #[.agg #[.int .i64 0,.int .i64 0,.int .i64 0,.bool false,.int .i64 0,.int .i64 0,.string ⟨#[]⟩,.int .i64 0,.string ⟨#[]⟩,.pointer none,.slice none 0 0],.int .i64 2]) (by simp[results,Tryz.results288,go_sem,z0,z1,z2,z3,z4,z5,z6,z7,z8,z9,H]) rfl ⟨?_,.inl ⟨2,HE.out,by decide,rfl⟩⟩;exact bD BX (by omega) _ _ _ _ _ _ _ _ _ _ _
    ·have HE:Hid (bg m ps fns (.mk k r true f)=.error 3):=by rw[Hid,y.out,lY,Q];simp only[a3,if_neg Y]
     clear y Q a3 Y
     go_wp2_with fail
     refine bodyPost_ret (v:=.tuple #[.agg #[.int .i64 0,.int .i64 0,.int .i64 0,.bool false,.int .i64 0,.int .i64 0,.string ⟨#[]⟩,.int .i64 0,.string ⟨#[]⟩,.pointer none,.slice none 0 0],.int .i64 3]) (by simp[results,Tryz.results288,go_sem,z0,z1,z2,z3,z4,z5,z6,z7,z8,z9,H]) rfl ⟨?_,.inl ⟨3,HE.out,by decide,rfl⟩⟩;exact bD BX (by omega) _ _ _ _ _ _ _ _ _ _ _
    ·have HE:Hid (bg m ps fns (.mk k r true f)=.ok (.mk 5 fn.body.ty (O+fn.body.size) (D&&fn.body.quiet) 0 0 [] 0 r (some fi) s)):=by rw[Hid,y.out,lY,Q];simp only[a3,if_pos Y]
     obtain⟨bt,c8⟩:∃x,x=fn.body.ty:=⟨_,rfl⟩;obtain⟨bs,c7⟩:∃x,x=fn.body.size:=⟨_,rfl⟩;obtain⟨bq,c6⟩:∃x,x=fn.body.quiet:=⟨_,rfl⟩;rw[<-c8,<-c7,<-c6]at HE ⊢;clear y Q a3 Y c8 c7 c6
     go_wp2_with fail
     refine bodyPost_ret (v:=.tuple #[.agg #[.int .i64 5,.int .i64 bt,.int .i64 (O+bs),.bool (D&&bq),.int .i64 0,.int .i64 0,.string ⟨#[]⟩,.int .i64 0,.string (aa r),.pointer (some ⟨qb,0,none⟩),.slice ao n cap],.int .i64 0]) (by simp[results,Tryz.results288,go_sem,z0,z1,z2,z3,z4,z5,z6,z7,z8,z9,H]) rfl ⟨?_,.inr ⟨_,_,HE.out,rfl, ?_⟩⟩
     ·exact bD BX (by omega) _ _ _ _ _ _ _ _ _ _ _
     ·exact Ka (by omega) (λg h1 h2=>(gH _ _ _ _ _ _ _ _ _ _ _ _ _ _ (by omega)).trans (B.block g h2)) o W 5 bt (O+bs) (D&&bq) r ⟨qb,i3,rfl⟩
theorem ED(w:World)(a:Nat)(x:Bs)(t:Int)(l:Bs)(b:a<w.heap.size)(d:w.cell? ⟨a,0,none⟩=some (.string (aa l))):
  Calls prog 330 #[.agg #[.string (aa x),.int .i64 t],.pointer (some ⟨a,0,none⟩)] w λe w'=>e=.returned (.bool (x==l))/\Below w.heap.size w w':=by
 have c:Hid ((x==l)=((aa x).toList==(aa l).toList)):=by rw[Hid,au,au]
 have hb:=ae w (.cells #[.string (aa x),.int .i64 t] 380);have f:=(hb.cell (p:=⟨a,0,none⟩) b).trans d;go_enter Tryz.func330,Tryz.ntmps330;go_upto_region 1 with fail
 first
  |(go_region;go_wp2_with fail;go_ret;exact⟨by rw[c.out];rfl,hb.drew⟩)
  |(go_wp2_with fail;go_ret;exact⟨by rw[c.out];rfl,hb⟩)
theorem sW(w:World)(v:Value)(ns:List (Bs × Int))(j:Nat)(l:Bs)(h:iH w v ns)(A:j<w.heap.size)(H:w.cell? ⟨j,0,none⟩=some (.string (aa l))):
  Calls prog 329 #[v,.func (Fn.func 330) #[] #[.pointer (some ⟨j,0,none⟩)]] w λe w'=>(∃k:Int,e=.returned (.int .i64 k)/\((mo ns l=none/\k= -1)\/∃i:Nat,mo ns l=some i/\k=i/\i<ns.length))/\Below w.heap.size w w':=by
 obtain⟨G,cap,rfl,K,C⟩:=h;go_enter Tryz.func329,Tryz.ntmps329
 go_wp2_with fail
 go_loopw [8] (λD I=>∃i:Nat,i<=ns.length/\D=.int .i64 i/\Below w.heap.size w I/\Hid (mo ns l=((ns.drop i).findIdx? (λf=>f.1==l)).map (· +i))) (λD _=>ns.length- (intOf D).toNat)
 case atStart=>exact⟨0,Nat.zero_le _,rfl,refl _ _,by rw[Hid];simp[mo]⟩
 case round=>
  obtain⟨i,J,rfl,a,r⟩:=hrel;by_cases c:i<ns.length
  ·obtain⟨b,rfl,hb,E⟩:∃b,G=some ⟨b,0,none⟩/\b<w.heap.size/\∀(i:Nat) (n:Bs × Int),ns[i]? =some n->w.cell? ⟨b,i*2,none⟩=some (.string (aa n.1))/\w.cell? ⟨b,i*2+1,none⟩=some (.int .i64 n.2):=by
    rcases C with h|h
    ·subst h;simp at c
    ·exact h
   obtain⟨s,u⟩:=E i ns[i] (List.getElem?_eq_getElem c);replace s:=(a.cell (p:=⟨b,i*2,none⟩) hb).trans s;replace u:=(a.cell (p:=⟨b,i*2+1,none⟩) hb).trans u;have z:=(a.cell (p:=⟨j,0,none⟩) A).trans H;have F:ns.drop i=ns[i]::ns.drop (i+1):=List.drop_eq_getElem_cons c;have g:Hid (mo ns l=if(ns[i].1==l)then some i else((ns.drop (i+1)).findIdx? (λf=>f.1==l)).map (· +(i+1))):=by
    rw[Hid,r.out,F,List.findIdx?_cons]
    cases(ns[i].1==l)
    ·simp only[Bool.false_eq_true,if_false,Option.map_map];congr 1;funext x;simp;omega
    ·simp
   obtain⟨n,q⟩:∃n,n=ns[i]:=⟨_,rfl⟩;rw[<-q]at s u g;obtain⟨x,t⟩:=n;simp only at s u g;have B:j<wr.heap.size:=by have:=a.size;omega
   have y:=ED wr j x t l B z;clear E F C r q;obtain⟨d,o⟩:∃d,d=(x==l):=⟨_,rfl⟩;rw[<-o]at y g;clear o
   cases d with
   |true=>
    have m:Hid (mo ns l=some i):=by rw[Hid,g.out,if_pos rfl]
    clear g
    go_wp2_with(go_at_call 330;refine y.mono ?_;rintro e w2 ⟨rfl,hb2⟩)
    go_ret;exact⟨⟨_,rfl,.inr ⟨i,m.out,rfl,c⟩⟩,a.trans (hb2.mono a.size)⟩
   |false=>
    have m:Hid (mo ns l=((ns.drop (i+1)).findIdx? (λf=>f.1==l)).map (· +(i+1))):=by rw[Hid,g.out,if_neg Bool.false_ne_true]
    clear g
    go_wp2_with(go_at_call 330;refine y.mono ?_;rintro e w2 ⟨rfl,hb2⟩)
    go_roundw
    case rel=>exact⟨i+1,by omega,by go_num,a.trans (hb2.mono a.size),m⟩
    case measure=>simp[intOf];omega
  ·have m:Hid (mo ns l=none):=by rw[Hid,r.out,List.drop_of_length_le (by omega)];rfl
   clear r C
   go_wp2_with fail
   go_ret;exact⟨⟨_,rfl,.inl ⟨m.out,rfl⟩⟩,a⟩
theorem pG{w w2:World}{a b c:Obj}(h:Below (((w.alloc a).alloc b).alloc c).heap.size (((w.alloc a).alloc b).alloc c) w2):Below w.heap.size w w2/\(w2.heap[w.heap.size]? =some a/\w2.heap[w.heap.size+2]? =some c)/\w.heap.size<w2.heap.size/\w.heap.size+2<w2.heap.size:=by
 have d:=h.size;simp only[size_alloc]at d;have e:(((w.alloc a).alloc b).alloc c).heap[w.heap.size]? =some a:=(heap_alloc _ _ _ (by simp only[size_alloc];omega)).trans ((heap_alloc _ _ _ (by simp only[size_alloc];omega)).trans (heap_alloc_new w a));have f:(((w.alloc a).alloc b).alloc c).heap[w.heap.size+2]? =some c:=by
  have:=heap_alloc_new ((w.alloc a).alloc b) c;simp only[size_alloc]at this;exact this
 exact⟨(((refl _ w).alloc (Nat.le_refl _) _).alloc (by simp[size_alloc]) _ |>.alloc (by simp only[size_alloc];omega) _).trans (h.mono (by simp only[size_alloc];omega)),⟨(h.block _ (by simp only[size_alloc];omega)).trans e,(h.block _ (by simp only[size_alloc];omega)).trans f⟩,by omega,by omega⟩
theorem Iu(w:World)(M:List Nat)(ns:List (Bs × Int))(g:Option Addr)(o f:Nat)(m:iH w (.slice g o f) ns)(z:Option Addr)(y x:Nat)(u:Option Addr)(c s:Nat)(l:Bs):
  Calls prog 289 #[.agg #[.slice g o f,.slice z y x,.slice u c s],.string (aa l)] w λe w'=>sJ w M (qH ns l) e w':=by
 have B:Below w.heap.size w (((w.alloc (.cells #[.slice g o f,.slice z y x,.slice u c s] 332)).alloc (.cells #[.string (aa l)] 9)).alloc EJ):=(pG (refl _ _)).1;have K:(((w.alloc (.cells #[.slice g o f,.slice z y x,.slice u c s] 332)).alloc (.cells #[.string (aa l)] 9)).alloc EJ).cell? ⟨w.heap.size+1,0,none⟩=some (.string (aa l)):=by
  have:=heap_alloc_new (w.alloc (.cells #[.slice g o f,.slice z y x,.slice u c s] 332)) (.cells #[.string (aa l)] 9);rw[size_alloc]at this;exact(af ((heap_alloc _ _ _ (by simp only[size_alloc];omega)).trans this)).trans rfl
 have H:=sW _ _ ns (w.heap.size+1) l (m.ag B) (by simp only[size_alloc];omega) K;obtain⟨Z,cap,X,hl,C⟩:=m
 cases X;go_enter Tryz.func289,Tryz.ntmps289
 go_wp2_with(go_at_call 329;refine H.mono ?_)
 clear H K;rintro e w2 ⟨⟨k,rfl,⟨hN,rfl⟩|⟨i,hN,rfl,hlt⟩⟩,hb2⟩
 ·have r:Hid (qH ns l=.error 2):=by rw[Hid,qH,hN]
  obtain⟨q,⟨_,j⟩,Y,l2⟩:=pG hb2;obtain⟨⟨z0,D,z2,z3,z4,z5,E,F,G,z9,d⟩,O,g1,P,Q,R,S,T,U,V,W,A⟩:=bz j;clear hN hb2 C j
  go_wp2_with fail
  exact bodyPost_ret (v:=.tuple #[.agg #[.int .i64 0,.int .i64 0,.int .i64 0,.bool false,.int .i64 0,.int .i64 0,.string ⟨#[]⟩,.int .i64 0,.string ⟨#[]⟩,.pointer none,.slice none 0 0],.int .i64 2]) (by simp[results,Tryz.results289,go_sem,z0,D,z2,z3,z4,z5,E,F,G,z9,d]) rfl ⟨bD q (by omega) _ _ _ _ _ _ _ _ _ _ _,.inl ⟨2,r.out,by decide,rfl⟩⟩
 ·obtain⟨b,rfl,hb,J⟩:∃b,g=some ⟨b,0,none⟩/\b<w.heap.size/\∀(i:Nat) (n:Bs × Int),ns[i]? =some n->w.cell? ⟨b,i*2,none⟩=some (.string (aa n.1))/\w.cell? ⟨b,i*2+1,none⟩=some (.int .i64 n.2):=by
   rcases C with h|h
   ·subst h;simp at hlt
   ·exact h
  have a:=List.getElem?_eq_getElem hlt;have r:Hid (qH ns l=.ok (oC ns[i].2 i)):=by rw[Hid,qH,hN];simp only[a]
  obtain⟨q,⟨I,j⟩,Y,l2⟩:=pG hb2;have N:=(q.cell (p:=⟨b,i*2+1,none⟩) hb).trans (J i _ a).2;have s0:w2.cell? ⟨w.heap.size,0,none⟩=some (.slice (some ⟨b,0,none⟩) ns.length f):=(af I).trans rfl;obtain⟨⟨z0,D,z2,z3,z4,z5,E,F,G,z9,d⟩,O,g1,P,Q,R,S,T,U,V,W,A⟩:=bz j;obtain⟨t,L⟩:∃t,t=ns[i].2:=⟨_,rfl⟩;rw[<-L]at N r;clear hN hb2 C j I J L a
  go_wp2_with fail
  refine bodyPost_ret (v:=.tuple #[.agg #[.int .i64 2,.int .i64 t,.int .i64 1,.bool true,.int .i64 0,.int .i64 0,.string ⟨#[]⟩,.int .i64 i,.string ⟨#[]⟩,.pointer none,.slice none 0 0],.int .i64 0]) (by simp[results,Tryz.results289,go_sem,z0,D,z2,z3,z4,z5,E,F,G,z9,d]) rfl ⟨bD q (by omega) _ _ _ _ _ _ _ _ _ _ _,.inr ⟨_,_,r.out,rfl, ?_⟩⟩;exact lW _ _ _ 2 t 1 true 0 0 [] i []
theorem uM{l:Bs}(h:iC l=true):∃c:UInt8,l= [36,c]/\49<=c.toNat/\c.toNat<=57:=by
 simp only[iC,Bool.and_eq_true,decide_eq_true_eq,beq_iff_eq,Bool.not_eq_true',bQ]at h;obtain⟨⟨⟨f,b⟩,g,i⟩,d⟩:=h
 match l,f with
 | [a,c],_=>
  simp at b g i d;refine⟨c,by rw[b], ?_,by omega⟩;have:c.toNat≠48:=λe=>d (UInt8.toNat.inj (by rw[e];rfl));omega
theorem Ab(w:World)(B:List Nat)(ps:List Int)(N:Option Addr)(M L:Nat)(p:Option Addr)(A z:Nat)(K:bi w (.slice p A z) ps)(D:Option Addr)(n C:Nat)(l:Bs)(r:iC l=true):
  Calls prog 290 #[.agg #[.slice N M L,.slice p A z,.slice D n C],.string (aa l)] w λe w'=>sJ w B (uN ps l) e w':=by
 obtain⟨c,rfl,E,F⟩:=uM r;obtain⟨O,cap,G,s,o⟩:=K
 cases G;have k:Hid (uN ps [36,c]=match ps[c.toNat- 49]? with|none=>.error 2|some t=>.ok (qd t (c.toNat- 49:Nat))):=rfl;have f:aa [36,c]=⟨#[36,c]⟩:=rfl;rw[f];obtain⟨m,I⟩:∃m:Nat,c.toNat=49+m:=⟨c.toNat- 49,by omega⟩;have J:m<=8:=by omega
 have x:((((ByteArray.mk #[36,c])[1]'(by show 1<2;omega)).toNat:Int)- 49) % 256=(m:Int):=by show((c.toNat:Int)- 49) % 256=(m:Int);omega
 rw[I,Nat.add_sub_cancel_left]at k;clear r f;by_cases g:m<ps.length
 ·obtain⟨b,i,rfl,hb,a⟩:∃b i,p=some ⟨b,i,none⟩/\b<w.heap.size/\∀j u,ps[j]? =some u->w.cell? ⟨b,i+j,none⟩=some (.int .i64 u):=by
   rcases o with h|h
   ·subst h;simp at g
   ·exact h
  have q:=a m ps[m] (List.getElem?_eq_getElem g);rw[List.getElem?_eq_getElem g]at k;obtain⟨t,y⟩:∃t,t=ps[m]:=⟨_,rfl⟩;rw[<-y]at q k;clear y a o;go_enter Tryz.func290,Tryz.ntmps290
  go_wp2_with fail
  refine bodyPost_ret (v:=.tuple #[.agg #[.int .i64 3,.int .i64 t,.int .i64 1,.bool true,.int .i64 0,.int .i64 0,.string ⟨#[]⟩,.int .i64 m,.string ⟨#[]⟩,.pointer none,.slice none 0 0],.int .i64 0]) (by simp[results,Tryz.results290,go_sem]) rfl ⟨az _ _ _,.inr ⟨_,_,k.out,rfl, ?_⟩⟩;exact lW _ _ _ 3 t 1 true 0 0 [] m []
 ·have d:ps[m]? =none:=List.getElem?_eq_none (by omega);rw[d]at k;have H:ps.length<=m:=by omega
  clear o d;go_enter Tryz.func290,Tryz.ntmps290
  go_wp2_with fail
  exact bodyPost_ret (v:=.tuple #[.agg #[.int .i64 0,.int .i64 0,.int .i64 0,.bool false,.int .i64 0,.int .i64 0,.string ⟨#[]⟩,.int .i64 0,.string ⟨#[]⟩,.pointer none,.slice none 0 0],.int .i64 2]) (by simp[results,Tryz.results290,go_sem]) rfl ⟨az _ _ _,.inl ⟨2,k.out,by decide,rfl⟩⟩
def DU(atoi:Bs->Int)(k:Int)(l:Bs):Prop:=(k=3->∀x:World,Calls prog 331 #[.string (aa l)] x λe w'=>e=.returned (.tuple #[.int .i64 (atoi l),.nilIface])/\Below x.heap.size x w')/\(k=4->2<=l.length/\l.length<=32)/\(k=7->iC l=true)
theorem jo(w:World)(o a b:Obj):Below w.heap.size w (((w.alloc o).alloc a).alloc b):=(az w o a).alloc (by simp only[size_alloc];omega) _
theorem Lv(a:Bs->Int)(ps:Sc)(fns:List Fn)(L:List Nat)(w:World)(G:Option Addr)(F E:Nat)(D:Option Addr)(C B:Nat)(r:Option Addr)(b q:Nat)(k:Int)(J:Bs)(d:Option Addr)(I H:Nat)(T:Tr)(o:Except Int Ex)(n:Hid (bg a ps fns T=o))
  (M:∀x:World,Below w.heap.size w x->Calls prog 288 #[.agg #[.slice G F E,.slice D C B,.slice r b q],.agg #[.int .i64 k,.string (aa J),.bool true,.slice d I H]] x λe w'=>sJ x L o e w'):
  Calls prog 242 #[.agg #[.slice G F E,.slice D C B,.slice r b q],.agg #[.int .i64 k,.string (aa J),.bool true,.slice d I H]] w λe w'=>sJ w L (bg a ps fns T) e w':=by
 have S:=M _ (jo w (.cells #[.slice G F E,.slice D C B,.slice r b q] 332) (.cells #[.int .i64 k,.string (aa J),.bool true,.slice d I H] 96) EJ);clear M;go_enter Tryz.func242,Tryz.ntmps242
 go_wp2_with(go_at_call 288;refine S.mono ?_)
 rintro e w2 ⟨i,hres⟩;obtain⟨f,h,c,K,X⟩:=fP i;obtain⟨⟨z0,O,z2,z3,z4,z5,P,Q,R,z9,m⟩,g0,g1,g2,g3,g4,g5,g6,g7,g8,g9,W⟩:=bz c;rcases hres with⟨A,j,u,rfl⟩|⟨x,V,j,rfl,y⟩
 ·have p:Hid (bg a ps fns T=.error A):=by rw[Hid,n.out];exact j
  clear n j f h c i
  go_wp2_with fail
  exact bodyPost_ret (v:=.tuple #[.agg #[.int .i64 0,.int .i64 0,.int .i64 0,.bool false,.int .i64 0,.int .i64 0,.string ⟨#[]⟩,.int .i64 0,.string ⟨#[]⟩,.pointer none,.slice none 0 0],.int .i64 A]) (by simp[results,Tryz.results242,go_sem,z0,O,z2,z3,z4,z5,P,Q,R,z9,m]) rfl ⟨bD K (by omega) _ _ _ _ _ _ _ _ _ _ _,.inl ⟨A,p.out,u,rfl⟩⟩
 ·have p:Hid (bg a ps fns T=.ok x):=by rw[Hid,n.out];exact j
  obtain⟨sort,ty,size,quiet,vk,vn,vs,place,head,Z,N,fp,xo,xn,xc,Y,z,l, -, -, -, -, -⟩:=y.inv;have s:V= #[.int .i64 sort,.int .i64 ty,.int .i64 size,.bool quiet,.int .i64 vk,.int .i64 vn,.string (aa vs),.int .i64 place,.string (aa head),.pointer fp,.slice xo xn xc]:=by rw[<-Array.toList_inj];exact l
  subst s;have U:Hid _:=y;clear n j f h c z l y
  go_wp2_with fail
  refine bodyPost_ret (v:=.tuple #[.agg #[.int .i64 sort,.int .i64 ty,.int .i64 size,.bool quiet,.int .i64 vk,.int .i64 vn,.string (aa vs),.int .i64 place,.string (aa head),.pointer fp,.slice xo xn xc],.int .i64 0]) (by simp[results,Tryz.results242,go_sem,z0,O,z2,z3,z4,z5,P,Q,R,z9,m]) rfl ⟨bD K (by omega) _ _ _ _ _ _ _ _ _ _ _,.inr ⟨x,_,p.out,rfl, ?_⟩⟩;exact U.out.bounded.move (λg t=>gH _ _ _ _ _ _ _ _ _ _ _ _ _ _ (by have:=t.1;simp only[size_alloc]at this;omega)) (λg t=>by have:=t.1;simp only[size_alloc]at this;omega)
theorem Oo(a:Bs->Int)(ps:Sc)(fns:List Fn)(K:List Nat)(w:World)(t:Option Addr)(s r:Nat)(j:iH w (.slice t s r) ps.1)(I:Option Addr)(H G:Nat)(z:Option Addr)(b y:Nat)(p:Bs)(n:Option Addr)(N M:Nat)(T:Tr)(d:Hid (bg a ps fns T=qH ps.1 p)):
  Calls prog 242 #[.agg #[.slice t s r,.slice I H G,.slice z b y],.agg #[.int .i64 6,.string (aa p),.bool false,.slice n N M]] w λe w'=>sJ w K (bg a ps fns T) e w':=by
 have L:=Iu _ K ps.1 t s r (j.ag (jo w (.cells #[.slice t s r,.slice I H G,.slice z b y] 332) (.cells #[.int .i64 6,.string (aa p),.bool false,.slice n N M] 96) EJ)) I H G z b y p;obtain⟨o,l⟩:∃o,o=qH ps.1 p:=⟨_,rfl⟩;rw[<-l]at L d;clear l j;go_enter Tryz.func242,Tryz.ntmps242
 go_wp2_with(go_at_call 289;refine L.mono ?_)
 rintro e w2 ⟨i,hres⟩;obtain⟨f,h,c,J,X⟩:=fP i;obtain⟨⟨z0,P,z2,z3,z4,z5,Q,R,S,z9,q⟩,g0,g1,g2,g3,g4,g5,g6,g7,g8,g9,W⟩:=bz c;rcases hres with⟨F,k,C,rfl⟩|⟨x,V,k,rfl,D⟩
 ·have u:Hid (bg a ps fns T=.error F):=by rw[Hid,d.out];exact k
  clear d k f h c i
  go_wp2_with fail
  exact bodyPost_ret (v:=.tuple #[.agg #[.int .i64 0,.int .i64 0,.int .i64 0,.bool false,.int .i64 0,.int .i64 0,.string ⟨#[]⟩,.int .i64 0,.string ⟨#[]⟩,.pointer none,.slice none 0 0],.int .i64 F]) (by simp[results,Tryz.results242,go_sem,z0,P,z2,z3,z4,z5,Q,R,S,z9,q]) rfl ⟨bD J (by omega) _ _ _ _ _ _ _ _ _ _ _,.inl ⟨F,u.out,C,rfl⟩⟩
 ·have u:Hid (bg a ps fns T=.ok x):=by rw[Hid,d.out];exact k
  obtain⟨sort,ty,size,quiet,vk,vn,vs,place,head,Z,O,fp,xo,xn,xc,Y,E,m, -, -, -, -, -⟩:=D.inv;have A:V= #[.int .i64 sort,.int .i64 ty,.int .i64 size,.bool quiet,.int .i64 vk,.int .i64 vn,.string (aa vs),.int .i64 place,.string (aa head),.pointer fp,.slice xo xn xc]:=by rw[<-Array.toList_inj];exact m
  subst A;have U:Hid _:=D;clear d k f h c E m D
  go_wp2_with fail
  refine bodyPost_ret (v:=.tuple #[.agg #[.int .i64 sort,.int .i64 ty,.int .i64 size,.bool quiet,.int .i64 vk,.int .i64 vn,.string (aa vs),.int .i64 place,.string (aa head),.pointer fp,.slice xo xn xc],.int .i64 0]) (by simp[results,Tryz.results242,go_sem,z0,P,z2,z3,z4,z5,Q,R,S,z9,q]) rfl ⟨bD J (by omega) _ _ _ _ _ _ _ _ _ _ _,.inr ⟨x,_,u.out,rfl, ?_⟩⟩;exact U.out.bounded.move (λg B=>gH _ _ _ _ _ _ _ _ _ _ _ _ _ _ (by have:=B.1;simp only[size_alloc]at this;omega)) (λg B=>by have:=B.1;simp only[size_alloc]at this;omega)
theorem Oq(a:Bs->Int)(ps:Sc)(fns:List Fn)(J:List Nat)(w:World)(H:Option Addr)(G F:Nat)(s:Option Addr)(r q:Nat)(L:bi w (.slice s r q) ps.2)(y:Option Addr)(b u:Nat)(d:Bs)(X:iC d=true)(n:Option Addr)(N M:Nat)(T:Tr)(f:Hid (bg a ps fns T=uN ps.2 d)):
  Calls prog 242 #[.agg #[.slice H G F,.slice s r q,.slice y b u],.agg #[.int .i64 7,.string (aa d),.bool false,.slice n N M]] w λe w'=>sJ w J (bg a ps fns T) e w':=by
 have K:=Ab _ J ps.2 H G F s r q (L.ag (jo w (.cells #[.slice H G F,.slice s r q,.slice y b u] 332) (.cells #[.int .i64 7,.string (aa d),.bool false,.slice n N M] 96) EJ)) y b u d X;obtain⟨o,l⟩:∃o,o=uN ps.2 d:=⟨_,rfl⟩;rw[<-l]at K f;clear l L;go_enter Tryz.func242,Tryz.ntmps242
 go_wp2_with(go_at_call 290;refine K.mono ?_)
 rintro e w2 ⟨j,hres⟩;obtain⟨h,i,c,I,Y⟩:=fP j;obtain⟨⟨z0,P,z2,z3,z4,z5,Q,R,S,z9,p⟩,g0,g1,g2,g3,g4,g5,g6,g7,g8,g9,W⟩:=bz c;rcases hres with⟨E,k,B,rfl⟩|⟨x,V,k,rfl,C⟩
 ·have t:Hid (bg a ps fns T=.error E):=by rw[Hid,f.out];exact k
  clear f k h i c j
  go_wp2_with fail
  exact bodyPost_ret (v:=.tuple #[.agg #[.int .i64 0,.int .i64 0,.int .i64 0,.bool false,.int .i64 0,.int .i64 0,.string ⟨#[]⟩,.int .i64 0,.string ⟨#[]⟩,.pointer none,.slice none 0 0],.int .i64 E]) (by simp[results,Tryz.results242,go_sem,z0,P,z2,z3,z4,z5,Q,R,S,z9,p]) rfl ⟨bD I (by omega) _ _ _ _ _ _ _ _ _ _ _,.inl ⟨E,t.out,B,rfl⟩⟩
 ·have t:Hid (bg a ps fns T=.ok x):=by rw[Hid,f.out];exact k
  obtain⟨sort,ty,size,quiet,vk,vn,vs,place,head,fi,O,fp,xo,xn,xc,Z,D,m, -, -, -, -, -⟩:=C.inv;have z:V= #[.int .i64 sort,.int .i64 ty,.int .i64 size,.bool quiet,.int .i64 vk,.int .i64 vn,.string (aa vs),.int .i64 place,.string (aa head),.pointer fp,.slice xo xn xc]:=by rw[<-Array.toList_inj];exact m
  subst z;have U:Hid _:=C;clear f k h i c D m C
  go_wp2_with fail
  refine bodyPost_ret (v:=.tuple #[.agg #[.int .i64 sort,.int .i64 ty,.int .i64 size,.bool quiet,.int .i64 vk,.int .i64 vn,.string (aa vs),.int .i64 place,.string (aa head),.pointer fp,.slice xo xn xc],.int .i64 0]) (by simp[results,Tryz.results242,go_sem,z0,P,z2,z3,z4,z5,Q,R,S,z9,p]) rfl ⟨bD I (by omega) _ _ _ _ _ _ _ _ _ _ _,.inr ⟨x,_,t.out,rfl, ?_⟩⟩;exact U.out.bounded.move (λg A=>gH _ _ _ _ _ _ _ _ _ _ _ _ _ _ (by have:=A.1;simp only[size_alloc]at this;omega)) (λg A=>by have:=A.1;simp only[size_alloc]at this;omega)
theorem EK(a:Bs->Int)(ps:Sc)(fns:List Fn)(u:List Nat)(w:World)(H:Option Addr)(G F:Nat)(E:Option Addr)(D C:Nat)(B:Option Addr)(c A:Nat)(k:Int)(b:Bs)(f:k≠6)(h:k≠7)(n:DU a k b)(l:Option Addr)(J I:Nat)(T:Tr)(z:Hid (bg a ps fns T=.ok (cK a k b))):
  Calls prog 242 #[.agg #[.slice H G F,.slice E D C,.slice B c A],.agg #[.int .i64 k,.string (aa b),.bool false,.slice l J I]] w λe w'=>sJ w u (bg a ps fns T) e w':=by
 have y:=Jv a k b (((w.alloc (.cells #[.slice H G F,.slice E D C,.slice B c A] 332)).alloc (.cells #[.int .i64 k,.string (aa b),.bool false,.slice l J I] 96)).alloc EJ) u n.1 n.2.1;have h6:(k==6)=false:=by simpa using f
 have h7:(k==7)=false:=by simpa using h
 obtain⟨x,j⟩:∃x,x=cK a k b:=⟨_,rfl⟩;rw[<-j]at y z;clear j n f h;go_enter Tryz.func242,Tryz.ntmps242
 go_wp2_with(go_at_call 291;refine y.mono ?_)
 rintro e w2 ⟨p,c5,rfl,hx⟩;obtain⟨m,o,d,L,O⟩:=fP p;obtain⟨⟨z0,Q,z2,z3,z4,z5,R,S,U,z9,t⟩,W,g1,X,Y,Z,g5,g6,g7,g8,g9,N⟩:=bz d;obtain⟨sort,ty,size,quiet,vk,vn,vs,place,head,V,K,fp,xo,xn,xc,P,s,i, -, -, -, -, -⟩:=hx.inv;have q:c5= #[.int .i64 sort,.int .i64 ty,.int .i64 size,.bool quiet,.int .i64 vk,.int .i64 vn,.string (aa vs),.int .i64 place,.string (aa head),.pointer fp,.slice xo xn xc]:=by rw[<-Array.toList_inj];exact i
 subst q;have M:Hid _:=hx;clear m o d s i hx
 go_wp2_with fail
 refine bodyPost_ret (v:=.tuple #[.agg #[.int .i64 sort,.int .i64 ty,.int .i64 size,.bool quiet,.int .i64 vk,.int .i64 vn,.string (aa vs),.int .i64 place,.string (aa head),.pointer fp,.slice xo xn xc],.int .i64 0]) (by simp[results,Tryz.results242,go_sem,z0,Q,z2,z3,z4,z5,R,S,U,z9,t]) rfl ⟨bD L (by omega) _ _ _ _ _ _ _ _ _ _ _,.inr ⟨x,_,z.out,rfl, ?_⟩⟩;exact M.out.bounded.move (λg r=>gH _ _ _ _ _ _ _ _ _ _ _ _ _ _ (by have:=r.1;simp only[size_alloc]at this;omega)) (λg r=>by have:=r.1;simp only[size_alloc]at this;omega)
theorem Om(a:Bs->Int)(N:Nat):DJ a (DU a) N:=by
 induction N using Nat.strongRecOn with
 |ind N ih=>
  intro t w i ps fns z y v u s r o b m c O q p K f L;obtain⟨k,h,I,d,j,n,cap,cs,rfl,H,M,J,e,Q⟩:=K.inv;obtain⟨l⟩:=c;simp only at H;subst H
  cases p with
  |mk A D=>
   cases I with
   |true=>
    have R:0<SizeOf.sizeOf (Tr.mk k h true d):=by simp only[Tr.mk.sizeOf_spec];omega
    have F:∀t∈d,SizeOf.sizeOf t<=SizeOf.sizeOf (Tr.mk k h true d)- 1:=by
     intro t P;have:=List.sizeOf_lt_of_mem P;simp only[Tr.mk.sizeOf_spec];omega
    simp only[uH]at q;refine Lv a ps fns i w z y v u s r o b m k h j n cap _ _ rfl λx G=> ?_;exact BU a _ _ (ih _ (by omega)) k h d F (by omega) D x i ps fns z y v u s r o b m j n cap M cs (J.bounded.move (λg E=>G.block g E.2) (λ_ _=>trivial)) (aA e λg E=>G.block g (e.lt g E).2) (f.ag G) L
   |false=>
    have A:=A rfl;by_cases B:k=6
    ·subst B;exact Oo a ps fns i w z y v f.ns u s r o b m h j n cap _ (by rw[Hid,bg,if_neg Bool.false_ne_true,if_pos rfl])
    ·by_cases C:k=7
     ·subst C;exact Oq a ps fns i w z y v u s r f.ps o b m h (A.2.2 rfl) j n cap _ (by rw[Hid,bg,if_neg Bool.false_ne_true,if_neg (by omega),if_pos rfl])
     ·exact EK a ps fns i w z y v u s r o b m k h B C A j n cap _ (by rw[Hid,bg,if_neg Bool.false_ne_true,if_neg B,if_neg C])
end Go.Proofs.YtdifpeaklamhnaaGreatDoor
