import Derived.Test.YtdifpeaklamhnaaGreatDoorBaA
import Derived.Deep.AppendLies
set_option linter.unusedVariables false
set_option linter.unusedSimpArgs false
set_option maxRecDepth 100000
set_option maxHeartbeats 0
namespace Go.Proofs.YtdifpeaklamhnaaGreatDoor
open Go.Proofs.Tryz
open Go.RowKit
open World (setCell size_alloc size_drew)
open Below (heap_setCell heap_alloc refl)
open Value (slice)
def za(FB:List Nat):List Value:=FB.map λq=>Value.pointer (some ⟨q,0,none⟩)
def qp(w:World)(bb:Nat)(FB:List Nat)(fns:List Fn):Prop:=∃fo fnn fc,w.heap[bb]? =some (.cells #[.slice fo fnn fc,.slice none 0 0] 194 (0,0))/\w.ownsRow (bb+1) 203 1 (.slice fo fnn fc) fns.length (za FB)/\FB.length=fns.length/\fns.length<=8/\
 ∀(i q:Nat) (fn:Fn),FB[i]? =some q->fns[i]? =some fn->mP w FB q fn
theorem AR{w:World}{b:Nat}{a:List Nat}{fns:List Fn}{f:Option Addr}{c d:Nat}(h:w.ownsRow b 203 1 (.slice f c d) fns.length (za a))(k:a.length=fns.length)(o:fns.length<=8)(j:∀(i q:Nat) (fn:Fn),a[i]? =some q->fns[i]? =some fn->mP w a q fn):iP w a (.slice f c d) fns:=by
 rcases h.2 with⟨e,m⟩|⟨g,cap,l,e,p⟩
 ·cases e;have:fns= []:=List.length_eq_zero_iff.mp m;subst this;exact⟨_,_,rfl,k,by simp,.inl rfl,j⟩
 ·cases e;refine⟨_,_,rfl,k,by omega,.inr ⟨g,rfl,(h.lt g rfl).2,λi q n=> ?_⟩,j⟩;have:=h.cells (g:=g) rfl i (.pointer (some ⟨q,0,none⟩)) (by simp[za,n]);rw[Addr.add_lit]at this;simpa using this
theorem zL.more{c:List Nat}{a:Option Nat}{fp:Option Addr}(h:zL c a fp)(l:List Nat):zL (c++l) a fp:=by
 cases a with
 |none=>exact h
 |some i=>obtain⟨b,d,e⟩:=h;exact⟨b,by rw[List.getElem?_append_left (List.getElem?_eq_some_iff.mp d).1];exact d,e⟩
mutual
theorem dJ.more{w:World}{e:List Nat}{S:Nat->Prop}(l:List Nat):∀ {c:List Value} {t:Ex},dJ w e S c t->dJ w (e++l) S c t
 |_,_,.mk a b d f=>.mk (dD.more l a) b d (f.more l)
theorem dD.more{w:World}{d:List Nat}{S:Nat->Prop}(l:List Nat):∀ {c:List Value} {t:List Ex},dD w d S c t->dD w (d++l) S c t
 |_,_,.nil=>.nil
 |_,_,.cons a b=>.cons (dJ.more l a) (dD.more l b)
end
theorem mP.more{w:World}{d:List Nat}{b:Nat}{fn:Fn}(h:mP w d b fn)(l:List Nat):mP w (d++l) b fn:=by
 obtain⟨e,c,f,g,a,i⟩:=h;exact⟨e,c,f,g,a,i.more l⟩
def jE(fns:List Fn)(name args body:Bs):Except Int Fn:=
 if aK [fU (!oG fns name) 2,fU (!dQ args) 9]≠0 then .error (aK [fU (!oG fns name) 2,fU (!dQ args) 9])else
 match eG bA ([],aP args) fns body with
 | .error n=>.error n
 | .ok x=>.ok ⟨name,aP args,x⟩
def SK(w:World)(bb:Nat)(FB:List Nat)(fns:List Fn)(o:Except Int Fn)(e:Ending)(w':World):Prop:=
 (∃n:Int,o=.error n/\n≠0/\e=.returned (.int .i64 n)/\Below w.heap.size w w')\/
 (∃(fn:Fn) (q:Nat),o=.ok fn/\e=.returned (.int .i64 0)/\qp w' bb (FB++ [q]) (fns++ [fn])/\Below bb w w')
theorem nk(w:World)(a b:Int):Calls prog 66 #[.slice (some ⟨w.heap.size,0,none⟩) 2 2] (w.alloc (.cells #[.int .i64 a,.int .i64 b] 68)) λe w'=>e=.returned (.int .i64 (aK [a,b]))/\w'=w.alloc (.cells #[.int .i64 a,.int .i64 b] 68):=by
 refine vB _ w.heap.size 2 [a,b] (by simp) λj u c=> ?_;rw[af (heap_alloc_new w _)]
 match j,c with
 |0,c=>simp at c;subst c;rfl
 |1,c=>simp at c;subst c;rfl
theorem sJ.form{w:World}{d:List Nat}{o:Except Int Ex}{e:Ending}{w':World}(h:sJ w d o e w'):Below w.heap.size w w'/\∃sort ty size quiet vk vn vs place head fp xo xn xc n,
  e=.returned (.tuple #[.agg #[.int .i64 sort,.int .i64 ty,.int .i64 size,.bool quiet,.int .i64 vk,.int .i64 vn,.string (aa vs),.int .i64 place,.string (aa head),.pointer fp,.slice xo xn xc],.int .i64 n])/\Hid ((o=.error n/\n≠0)\/(∃x,o=.ok x/\n=0/\dJ w' d (λg=>w.heap.size<=g) [.int .i64 sort,.int .i64 ty,.int .i64 size,.bool quiet,.int .i64 vk,.int .i64 vn,.string (aa vs),.int .i64 place,.string (aa head),.pointer fp,.slice xo xn xc] x)):=by
 obtain⟨hb,⟨n,a,k,rfl⟩|⟨x,c,a,rfl,f⟩⟩:=h
 ·exact⟨hb,0,0,0,false,0,0,[],0,[],none,none,0,0,n,rfl,.inl ⟨a,k⟩⟩
 ·obtain⟨sort,ty,size,quiet,vk,vn,vs,place,head,p,i,fp,xo,xn,xc,m,l,b, -, -, -, -, -⟩:=f.inv;have j:c= #[.int .i64 sort,.int .i64 ty,.int .i64 size,.bool quiet,.int .i64 vk,.int .i64 vn,.string (aa vs),.int .i64 place,.string (aa head),.pointer fp,.slice xo xn xc]:=by rw[<-Array.toList_inj];exact b
  subst j;exact⟨hb,sort,ty,size,quiet,vk,vn,vs,place,head,fp,xo,xn,xc,0,rfl,.inr ⟨x,a,rfl,f⟩⟩
theorem Gx{x:World}{b:Nat}{b0 b1 b2 b3 b4 b5 i j k l c:Value}{T:TypeId}{g:Nat × Nat}(h:x.heap[b]? =some (.cells #[b0,b1,b2,b3,b4,b5,i,j,k,l,c] T g))(a0 a1 a2 a3 a4 a5 d e f a9 a:Value):(((((((((((x.setCell ⟨b,0,none⟩ a0).setCell ⟨b,1,none⟩ a1).setCell ⟨b,2,none⟩ a2).setCell ⟨b,3,none⟩ a3).setCell ⟨b,4,none⟩ a4).setCell ⟨b,5,none⟩ a5).setCell ⟨b,6,none⟩ d).setCell ⟨b,7,none⟩ e).setCell ⟨b,8,none⟩ f).setCell ⟨b,9,none⟩ a9).setCell ⟨b,10,none⟩ a).heap[b]? =some (.cells #[a0,a1,a2,a3,a4,a5,d,e,f,a9,a] T g):=by
 simp[setCell,Array.getElem?_modify,h]
theorem tC{ps:Sc}{fns:List Fn}(a:∀fn∈fns,0<=fn.body.size/\fn.body.size<=300){l:Bs}{x:Ex}(h:eG bA ps fns l=.ok x):0<=x.size/\x.size<=300:=by
 unfold eG at h;split at h
 ·cases h
 ·next t d=>
  unfold mJ at h;split at h
  ·cases h
  ·next y c=>
   split at h
   ·cases h
   ·next b=>
    cases h;have:=wh bA ps a _ t (Nat.le_refl _) x c;omega
theorem mi{x:World}{b:Nat}{a0 a1:Value}{T:TypeId}(h:x.heap[b]? =some (.cells #[a0,a1] T (0,0))):x.cell? ⟨b,0,none⟩=some a0/\x.frozen? ⟨b,0,none⟩=false/\x.cell? ⟨b,1,none⟩=some a1/\x.frozen? ⟨b,1,none⟩=false:=by
 simp[World.cell?,World.frozen?,h]
theorem NP(x:World)(o a:Obj):((x.alloc o).alloc a).drew.heap[x.heap.size+1]? =some a:=by
 have:=heap_alloc_new (x.alloc o) a;rw[size_alloc]at this;exact this
theorem yz{args:Bs}(h:dQ args=true):args.length<=4:=by
 simp only[dQ,Bool.and_eq_true,decide_eq_true_eq]at h;exact h.1
theorem Ow{a b:Bool}(h:aK [fU (!a) 2,fU (!b) 9]=0):a=true/\b=true:=by
 cases a<;>cases b<;>simp[aK,fU]at h ⊢
theorem Tx:(Tryz.prog.info? 203).map (λi=>(i.zero,i.size,i.bytes))=some (some (.pointer none),1,8):=by kernel_rfl
theorem QF{w wc w7:World}{c z b:Nat}{k:List Nat}{fns:List Fn}{y:Option Addr}{f v:Nat}(Y:c<w.heap.size)(D:k.length=fns.length)(h7:fns.length<=7)
  (H:∀(i q:Nat) (fn:Fn),k[i]? =some q->fns[i]? =some fn->mP w k q fn) (u:Below w.heap.size w wc) (m:wc.ownsRow (c+1) 203 1 (.slice y f v) fns.length (za k)) (C:wc.heap[c]? =some (.cells #[.slice y f v,.slice none 0 0] 194 (0,0)))
  {S:Nat->Prop} {name:Bs} {G:List Int} (M:G.length<=1000) {P:Option Addr} {O N:Nat} {sort ty size:Int} {quiet:Bool} {vk vn:Int} {vs:Bs} {place:Int} {head:Bs} {fp xo:Option Addr} {xn xc:Nat} {x:Ex} (R:wc.ownsRow 0 3 1 (.slice P O N) G.length (aL G)) (hx:dJ wc k S [.int .i64 sort,.int .i64 ty,.int .i64 size,.bool quiet,.int .i64 vk,.int .i64 vn,.string (aa vs),.int .i64 place,.string (aa head),.pointer fp,.slice xo xn xc] x)
  (s:w7.ownsRow (c+1) 203 1 (.slice (some ⟨z,0,none⟩) (fns.length+1) b) (fns.length+1) (za k++ [.pointer (some ⟨wc.heap.size,0,none⟩)])) {L:Obj}
  (a:((wc.alloc (.cells #[.string (aa name),.slice P O N,.int .i64 sort,.int .i64 ty,.int .i64 size,.bool quiet,.int .i64 vk,.int .i64 vn,.string (aa vs),.int .i64 place,.string (aa head),.pointer fp,.slice xo xn xc] 212)).alloc L).drew.grownBy w7 (slice y f v).ownBlock)
  (kB:w7.heap[c]? =some (.cells #[.slice y f v,.slice none 0 0] 194 (0,0))):
  qp (w7.setCell ⟨c,0,none⟩ (.slice (some ⟨z,0,none⟩) (fns.length+1) b)) c (k++ [wc.heap.size]) (fns++ [⟨name,G,x⟩])/\Below c w (w7.setCell ⟨c,0,none⟩ (.slice (some ⟨z,0,none⟩) (fns.length+1) b)):=by
 have Z:=u.size;have I:=a.size;simp only[size_drew,size_alloc]at I;have l:∀g,g<wc.heap.size->g≠c->(slice y f v).ownBlock≠some g->(w7.setCell ⟨c,0,none⟩ (.slice (some ⟨z,0,none⟩) (fns.length+1) b)).heap[g]? =wc.heap[g]? :=by
  intro g V W X;rw[heap_setCell _ _ _ _ W,a.block g (by simp only[size_drew,size_alloc];omega) (λe=>X e.symm)];exact(heap_alloc _ _ _ (by simp only[size_alloc];omega)).trans (heap_alloc _ _ _ V)
 have d:∀(g:Nat) (n:Array Value) (T:TypeId) (F:Nat × Nat),wc.heap[g]? =some (.cells n T F)->T=212\/T=3\/T=210->(w7.setCell ⟨c,0,none⟩ (.slice (some ⟨z,0,none⟩) (fns.length+1) b)).heap[g]? =wc.heap[g]? :=by
  intro g n T F o Q;refine l g (ai o) (λe=> ?_) (λe=> ?_)
  ·subst e;rw[C]at o;cases o;revert Q;decide
  ·rcases m.2 with⟨h,_⟩|⟨U,A,B,h,_,K,_⟩
   ·rw[h]at e;cases e
   ·rw[h]at e;cases e;rw[K]at o;cases o;revert Q;decide
 have E:(slice y f v).ownBlock≠some wc.heap.size:=λe=>by have:=(m.lt _ e).2;omega
 refine⟨⟨some ⟨z,0,none⟩,fns.length+1,b,by simp[setCell,Array.getElem?_modify,kB], ?_,by simp[D],by simp;omega,λi q fn t j=> ?_⟩, ?_⟩
 ·have e:za (k++ [wc.heap.size])=za k++ [.pointer (some ⟨wc.heap.size,0,none⟩)]:=by simp[za]
  rw[e,List.length_append];exact ownsRow_setCell_below s (by simp) _
 ·rcases Nat.lt_or_ge i k.length with hlt|hge
  ·rw[List.getElem?_append_left hlt]at t;rw[List.getElem?_append_left (by omega)]at j;exact(((H i q fn t j).ag u).grow d).more _
  ·rw[List.getElem?_append_right hge]at t;rw[List.getElem?_append_right (by omega)]at j;have J:i- k.length=0:=by
    have:=(List.getElem?_eq_some_iff.mp t).1;simp at this;omega
   rw[J]at t;rw[show i- fns.length=0 by omega]at j;simp at t j;subst t j;refine(show mP _ k _ _ from⟨.slice P O N,[.int .i64 sort,.int .i64 ty,.int .i64 size,.bool quiet,.int .i64 vk,.int .i64 vn,.string (aa vs),.int .i64 place,.string (aa head),.pointer fp,.slice xo xn xc], ?_,aA R λg r=> ?_,M,hx.typed.move (λg r=> ?_) (λ_ _=>trivial)⟩).more _
   ·rw[heap_setCell _ _ _ _ (by show wc.heap.size≠c;omega),a.block _ (by simp only[size_drew,size_alloc];omega) (λe=>E e.symm)];exact(heap_alloc _ _ _ (by simp only[size_alloc];omega)).trans (heap_alloc_new wc _)
   ·rcases R.2 with⟨h,_⟩|⟨U,A,B,h,_,K,_⟩
    ·rw[h]at r;cases r
    ·rw[h]at r;cases r;exact d _ _ _ _ K (.inr (.inl rfl))
   ·obtain⟨_,n,F,o⟩:=r;exact d g n _ F o (.inr (.inr rfl))
 ·suffices hB:Below c w w7 from hB.setCell (p:=⟨c,0,none⟩) (Nat.le_refl _) _
  refine⟨a.os.trans u.os,a.tape.trans u.tape,a.output.trans u.output,by omega,λg r=> ?_⟩;have:=l g (by omega) (by omega) (λe=>by have:=(m.lt _ e).1;omega);rw[heap_setCell _ _ _ _ (by show g≠c;omega)]at this;exact this.trans (u.block g (by omega))
theorem DV(w:World)(i:Nat)(z:List Nat)(fns:List Fn)(hB:qp w i z fns)(h7:fns.length<=7)(hf:∀fn∈fns,0<=fn.body.size/\fn.body.size<=300)(name args body:Bs)(hn:name.length<=maxLen)(hb:body.length<=maxLen):
  Calls prog 110 #[.pointer (some ⟨i,0,none⟩),.agg #[.string (aa name),.string (aa args),.string (aa body)]] w λe w'=>SK w i z fns (jE fns name args body) e w':=by
 obtain⟨i0,hi,a4,a5,a6⟩:=info_parts Tx;obtain⟨G,k,F,B,d,I,h8,D⟩:=hB;have C:=ai B;have A:=AR d I h8 D;have HF:∀x:World,Below w.heap.size w x->Calls prog 184 #[.pointer (some ⟨i,0,none⟩),.string (aa name)] x λe w'=>e=.returned (.bool (oG fns name))/\Below x.heap.size x w':=
  λx y=>IR x z fns i G k F (by have:=y.size;omega) ((af ((y.block i C).trans B)).trans rfl) (A.ag y) name hn
 have HA:∀x:World,Calls prog 185 #[.string (aa args)] x λe w'=>e=.returned (.bool (dQ args))/\Below x.heap.size x w':=by
  intro x;have:=BL (aa args) x;rw[au]at this;exact this
 obtain⟨fr,p⟩:∃x,x=oG fns name:=⟨_,rfl⟩;obtain⟨ar,l⟩:∃x,x=dQ args:=⟨_,rfl⟩;rw[<-p]at HF;rw[<-l]at HA;go_enter Tryz.func110,Tryz.ntmps110;go_upto_region 1 with fail
 go_cut [5] (λs5 Y=>s5=.int .i64 (aK [fU (!fr) 2,fU (!ar) 9])/\Below (w.alloc (.cells #[.string (aa name),.string (aa args),.string (aa body)] 48)).heap.size (w.alloc (.cells #[.string (aa name),.string (aa args),.string (aa body)] 48)) Y)
 case first=>
  clear p l A D d;go_region_with(first
   |(go_at_call 184;refine(HF _ ?_).mono ?_;exact(ae w _).drew;rintro e w2 ⟨rfl,b⟩;replace b:=jT b;have f2:=(b.block w.heap.size (by simp[size_alloc])).trans (heap_alloc_new w _);have b4:=(af (j:=0) f2).trans rfl;have b5:=(af (j:=1) f2).trans rfl)
   |(go_at_call 185;refine(HA _).mono ?_;rintro e w3 ⟨rfl,a⟩)
   |(go_at_call 123;refine(jf _ _ _).mono ?_;rintro e w4 ⟨rfl,rfl⟩)
   |(go_at_call 66;refine(nk _ _ _).mono ?_;rintro e w5 ⟨rfl,rfl⟩))
  all_goals(go_wp2_with fail;go_meet)
  all_goals exact⟨rfl,(b.trans (a.mono b.size)).alloc (by have:=b.size;have:=a.size;omega) _⟩
 case rest=>
  obtain⟨rfl,q⟩:=hcut;obtain⟨Q,f⟩:∃Q,Q=aK [fU (!fr) 2,fU (!ar) 9]:=⟨_,rfl⟩;rw[<-f];have W:=q.size;simp only[size_alloc]at W;have BC:Below w.heap.size w wc:=(ae w _).trans (q.mono (by simp[size_alloc]));have fC:=(q.block w.heap.size (by simp[size_alloc])).trans (heap_alloc_new w _);by_cases P:Q=0
  ·have U:=Ow (f.symm.trans P);have h4:args.length<=4:=yz (by rw[<-l];exact U.2);have E:Hid (jE fns name args body=match eG bA ([],aP args) fns body with| .error n=>.error n| .ok x=>.ok ⟨name,aP args,x⟩):=by
    rw[Hid,jE,<-p,<-l,<-f,if_neg (by simpa using P)]
   subst P;have HT:Calls prog 186 #[.string (aa args)] wc λe w'=>∃v',e=.returned v'/\(bi w' v' (aP args)/\w'.ownsRow wc.heap.size 3 1 v' (aP args).length (aL (aP args)))/\Below wc.heap.size wc w':=by
    have:=xB (aa args) wc (by rw[aF];omega);rw[au]at this;exact this
   have c1:wc.cell? ⟨w.heap.size,1,none⟩=some (.string (aa args)):=(af fC).trans rfl;clear f p l HF HA q U
   go_wp2_with(go_at_call 186;refine HT.mono ?_)
   rintro e w2 ⟨v2,rfl,⟨hi2,ho2⟩,b⟩;obtain⟨po,pc,rfl⟩:=hi2.form;have c0:=b.size;have Z:Below w.heap.size w w2:=BC.trans (b.mono BC.size);have f2:=(b.block w.heap.size (by omega)).trans fC;have d0:w2.cell? ⟨w.heap.size,0,none⟩=some (.string (aa name)):=(af f2).trans rfl;have d2:w2.cell? ⟨w.heap.size,2,none⟩=some (.string (aa body)):=(af f2).trans rfl;have e0:w2.cell? ⟨i,0,none⟩=some (.slice G k F):=(af ((Z.block i C).trans B)).trans rfl;have S:∀x:World,Below w2.heap.size w2 x->Calls prog 187 #[.agg #[.slice none 0 0,.slice po (aP args).length pc,.slice G k F],.string (aa body)] x λe w'=>sJ x z (eG bA ([],aP args) fns body) e w':=by
    intro x y;have:=sD bA ([],aP args) fns hf (aa body) (by rw[aF];exact hb) (λt ht=>KI _ t ht) x z none 0 0 po (aP args).length pc G k F ⟨FE _ _,hi2.ag y,(A.ag Z).ag y⟩;rw[au]at this;exact this
   have c3:w.heap.size<w2.heap.size:=by omega
   have a9:i<w2.heap.size:=by omega
   obtain⟨rd,M⟩:∃rd,rd=eG bA ([],aP args) fns body:=⟨_,rfl⟩;rw[<-M]at S E;obtain⟨O,N⟩:∃O,O=aP args:=⟨_,rfl⟩;rw[<-N]at S E hi2 ho2 ⊢;have b9:∀x,rd=.ok x->0<=x.size/\x.size<=300:=λx y=>tC hf (M.symm.trans y);have X:O.length<=1000:=by rw[N,aP,List.length_map];omega
   clear M N HT c1 fC W;go_upto_region 5 with fail
   go_cut [5,7] (λs5 s7 Y=>∃(k7:Nat) (c:List Value) (n:Int),s5=.int .i64 n/\s7=.pointer (some ⟨k7,0,none⟩)/\Below w2.heap.size w2 Y/\w2.heap.size<=k7/\Y.heap[k7]? =some (.cells c.toArray 210 (0,0))/\Hid ((rd=.error n/\n≠0)\/(∃x,rd=.ok x/\n=0/\dJ Y z (λg=>w2.heap.size<=g) c x)))
   case first=>
    go_region_with(first
     |(go_at_call 187;refine(S _ ?_).mono ?_;exact(refl w2.heap.size w2).drew;intro e w3 v;obtain⟨a,sort,ty,size,quiet,vk,vn,vs,place,head,fp,xo,xn,xc,n,rfl,K⟩:=v.form;clear v;replace a:=jT a)
     |(go_at_call 187;refine(S _ ?_).mono ?_;exact(ae w2 EJ).drew;intro e w3 v;obtain⟨a,sort,ty,size,quiet,vk,vn,vs,place,head,fp,xo,xn,xc,n,rfl,K⟩:=v.form;clear v;replace a:=jT a;have V:=(a.block w2.heap.size (by simp[size_alloc])).trans (heap_alloc_new w2 EJ);obtain⟨⟨z0,z1,z2,z3,z4,z5,z6,z7,z8,z9,c6⟩,g0,g1,g2,g3,g4,g5,g6,g7,g8,g9,b6⟩:=bz V))
    all_goals(go_wp2_with fail;go_meet)
    all_goals first
     |(refine⟨w3.heap.size,[.int .i64 sort,.int .i64 ty,.int .i64 size,.bool quiet,.int .i64 vk,.int .i64 vn,.string (aa vs),.int .i64 place,.string (aa head),.pointer fp,.slice xo xn xc],n,rfl,rfl,a.alloc a.size _,a.size,heap_alloc_new _ _, ?_⟩
       rcases K.out with h|⟨x,h1,h2,h3⟩
       ·exact .inl h
       ·exact .inr ⟨x,h1,h2,h3.bounded.move (λg s=>heap_alloc _ _ _ s.2) (λg s=>s.1)⟩)
     |(refine⟨w2.heap.size,[.int .i64 sort,.int .i64 ty,.int .i64 size,.bool quiet,.int .i64 vk,.int .i64 vn,.string (aa vs),.int .i64 place,.string (aa head),.pointer fp,.slice xo xn xc],n,rfl,rfl,bD ((ae w2 EJ).trans (a.mono (by simp[size_alloc]))) (Nat.le_refl _) _ _ _ _ _ _ _ _ _ _ _,Nat.le_refl _,Gx V _ _ _ _ _ _ _ _ _ _ _, ?_⟩
       rcases K.out with h|⟨x,h1,h2,h3⟩
       ·exact .inl h
       ·exact .inr ⟨x,h1,h2,h3.move (λg s=>gH _ _ _ _ _ _ _ _ _ _ _ _ _ _ (by simp only[size_drew,size_alloc]at s;omega)) (λg s=>by simp only[size_drew,size_alloc]at s;omega)⟩)
   case rest=>
    obtain⟨k7,c,n,rfl,rfl,a,b8,H,K⟩:=hcut;have B3:Below w.heap.size w wc:=Z.trans (a.mono Z.size);have c2:=a.size;have f4:=(a.block w.heap.size (by omega)).trans f2;have d4:wc.cell? ⟨w.heap.size,0,none⟩=some (.string (aa name)):=(af f4).trans rfl;have r:=(B3.block i C).trans B;obtain⟨e4,g4,_⟩:=mi r;clear d0 d2 e0 S;rcases K.out with⟨ho,f⟩|⟨x,ho,rfl,y⟩
    ·have HE:Hid (jE fns name args body=.error n):=by rw[Hid,E.out,ho]
     have a0:(n==0)=false:=by simpa using f
     clear K E
     go_wp2_with fail
     go_ret;exact .inl ⟨n,HE.out,f,rfl,B3⟩
    ·have HE:Hid (jE fns name args body=.ok ⟨name,O,x⟩):=by rw[Hid,E.out,ho]
     obtain⟨sort,ty,size,quiet,vk,vn,vs,place,head,fi,b3,fp,xo,xn,xc,c4,a3,rfl, -, -, -, -, -⟩:=y.inv;obtain⟨⟨y0,y1,y2,y3,y4,y5,y6,y7,y8,y9,c5⟩,f0,f1,f2,f3,f4,f5,f6,f7,f8,f9,f10⟩:=bz H;have J:wc.ownsRow (i+1) 203 1 (.slice G k F) fns.length (za z):=aA d λg s=>B3.block g (d.lt g s).2;have R:∀o o':Obj,((wc.alloc o).alloc o').drew.ownsRow (i+1) 203 1 (.slice G k F) fns.length (za z):=λo o'=>World.ownsRow.drew (World.ownsRow.alloc (World.ownsRow.alloc J o) o');have a1:wc.ownsRow 0 3 1 (.slice po O.length pc) O.length (aL O):=kw (aA ho2 λg s=>a.block g (ho2.lt g s).2) λ_ _=>Nat.zero_le _;have a2:(slice G k F).ownBlock≠some i:=λe=>by have:=(d.lt _ e).1;omega
     have b0:=ai H;have T:i<wc.heap.size:=by omega
     have b2:w.heap.size<wc.heap.size:=by omega
     clear K E ho a3;go_upto_region 8 with fail
     go_region_law (refine step_append_lies _ rfl (.tmp 46) (.tmp 53) 191 rfl (i+1) 203 i0 _ 1 8 Tryz.underlying191 hi a4 a5 a6 rfl (by decide) (.slice G k F) fns.length (za z) (by simp[Act.eval]) (R _ _) ⟨wc.heap.size+1,0,none⟩ 1 1 [.pointer (some ⟨wc.heap.size,0,none⟩)] (by simp[Act.eval]) rfl (World.news_of_block (NP wc _ _)) (by intro u hu;simp at hu;subst hu;rfl) (by decide) (by unfold maxLen;omega) (by omega) (by simp;omega) (wc.heap.size+2) (by simp) ?_;intro g7 a7 w7 L m a8 b1;have kB:w7.heap[i]? =_:=(m.block i (by simp;omega) a2.symm).trans ((heap_alloc _ _ _ (by simp[size_alloc];omega)).trans ((heap_alloc _ _ _ T).trans r));have b7:=ai kB;obtain⟨r0,t0,_⟩:=mi kB)
     all_goals(go_wp2_with fail;go_ret)
     all_goals
      obtain⟨A1,A2⟩:=QF C I h7 D B3 J r X a1 y L m kB;exact .inr ⟨_,_,HE.out,rfl,A1,A2⟩
  ·have E:Hid (jE fns name args body=.error Q):=by
    rw[Hid,jE,<-p,<-l,<-f,if_pos P]
   have a0:(Q==0)=false:=by simpa using P
   clear f p l HF HA q A D d
   go_wp2_with fail
   go_ret;exact .inl ⟨Q,E.out,P,rfl,BC⟩
end Go.Proofs.YtdifpeaklamhnaaGreatDoor
