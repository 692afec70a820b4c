import Derived.Test.YtdifpeaklamhnaaGreatDoorRtOZ
import Derived.Test.YtdifpeaklamhnaaGreatDoorAtDZ
set_option linter.unusedVariables false
set_option linter.unusedSimpArgs false
set_option maxRecDepth 100000
set_option maxHeartbeats 0
namespace Go.Proofs.YtdifpeaklamhnaaGreatDoor
open Go.Proofs.Tryz
open Go.RowKit
open Value (slice string)
open World (size_drew size_alloc)
theorem TV:(Tryz.prog.info? 217).map (λi=>(i.zero,i.size,i.bytes))=some (some (.agg #[.string ⟨#[]⟩,.string ⟨#[]⟩,.slice none 0 0,.int .i64 0,.bool false]),5,72):=by kernel_rfl
def bT(l:List tY):List Fn:=RF.list (l.map (·.1))
def Qv(w:World)(xb:Nat)(l:List tY)(args:Bs)(o:Except Int Fn)(e:Ending)(w':World):Prop:=
 (∃n:Int,o=.error n/\n≠0/\e=.returned (.int .i64 n)/\Below w.heap.size w w')\/
 (∃(fn:Fn) (t:Tr) (g cap:Nat),o=.ok fn/\e=.returned (.int .i64 0)/\uV w' xb (l++ [(⟨fn,args,t⟩,g,cap)])/\uU ((l++ [((⟨fn,args,t⟩:RF),g,cap)]).map (·.1))/\Below xb w w')
theorem yX{w:World}{b:Value}{a:List RF}(h:lN w b a):nR w none 0 0 none 0 0 b [] a:=⟨rfl,rfl,by simp,.inl rfl,.inl rfl,by simp,by simp,h⟩
theorem uf{fns:List Fn}{name args body:Bs}(h:oK fns name=false):jH fns name args body=.error 2:=by
 rw[jH,h];rfl
theorem AO{fns:List Fn}{name args body:Bs}(h:oK fns name=true)(a:dN args=false):jH fns name args body=.error 9:=by
 rw[jH,h,a];rfl
theorem Qy{fns:List Fn}{name args body:Bs}(h:oK fns name=true)(a:dN args=true):jH fns name args body=match eZ bi ([],aK args) fns body with| .error n=>.error n| .ok x=>.ok ⟨name,aK args,x⟩:=by
 rw[jH,h,a];rfl
theorem QN{x:World}{b:Nat}{a0 a1 a2:Value}{T:TypeId}(h:x.heap[b]? =some (.cells #[a0,a1,a2] T (0,0))):x.cell? ⟨b,0,none⟩=some a0/\x.frozen? ⟨b,0,none⟩=false/\x.cell? ⟨b,1,none⟩=some a1/\x.cell? ⟨b,2,none⟩=some a2:=by
 simp[World.cell?,World.frozen?,h]
theorem iL.move{w x:World}{g cap:Nat}{l:List Tr}{ty:Nat->Int}{cs:List Value}(h:iL w g cap l ty cs)(f:∀(q:Nat) (b:Array Value) (T:TypeId) (i:Nat × Nat),w.heap[q]? =some (.cells b T i)->T=183\/T=3->x.heap[q]? =w.heap[q]?):iL x g cap l ty cs:=by
 refine⟨aA h.own λq a=> ?_,λj t r=> ?_,h.small,h.Oq⟩
 ·rcases h.own.2 with⟨c,_⟩|⟨_,_,_,c,_,d,_⟩
  ·cases c
  ·cases c;cases a;exact f _ _ _ _ d (.inl rfl)
 ·obtain⟨v,is,k,m,n,o,e,p⟩:=h.nodes j t r;refine⟨v,is,k,m,n,o,aA e λq a=> ?_,p⟩;rcases e.2 with⟨rfl,_⟩|⟨_,_,_,rfl,_,d,_⟩
  ·cases a
  ·cases a;exact f _ _ _ _ d (.inr rfl)
theorem kz.move{w x:World}{e:tY}(h:kz w e)(f:∀(q:Nat) (a:Array Value) (T:TypeId) (b:Nat × Nat),w.heap[q]? =some (.cells a T b)->T=183\/T=3->x.heap[q]? =w.heap[q]?):kz x e:=by
 obtain⟨cs,uT,c,d⟩:=h;exact⟨cs,uT,c.move f,d⟩
theorem Uj{w wc w7:World}{L:Obj}{c q b:Nat}{l:List tY}{t:Option Addr}{d s:Nat}{j:tY}
  (I:c<w.heap.size) (o:Below w.heap.size w wc) (x:wc.heap[c]? =some (.cells #[.slice t d s,.slice none 0 0,.slice none 0 0] 200 (0,0))) (k:wc.ownsRow (c+1) 217 5 (.slice t d s) l.length (eB l)) (M:l.length<=7) (u:∀e∈l,kz w e) (v:kz wc j)
  (n:w7.ownsRow (c+1) 217 5 (.slice (some ⟨q,0,none⟩) (l.length+1) b) (l.length+1) (eB l++nY j))
  (a:(wc.alloc L).drew.grownBy w7 (slice t d s).ownBlock)
  (J:w7.heap[c]? =some (.cells #[.slice t d s,.slice none 0 0,.slice none 0 0] 200 (0,0))):
  uV (w7.setCell ⟨c,0,none⟩ (.slice (some ⟨q,0,none⟩) (l.length+1) b)) c (l++ [j])/\Below c w (w7.setCell ⟨c,0,none⟩ (.slice (some ⟨q,0,none⟩) (l.length+1) b)):=by
 have H:=o.size;have y:=a.size;simp only[size_drew,size_alloc]at y;have i:∀g,g<wc.heap.size->g≠c->(slice t d s).ownBlock≠some g->(w7.setCell ⟨c,0,none⟩ (.slice (some ⟨q,0,none⟩) (l.length+1) b)).heap[g]? =wc.heap[g]? :=by
  intro g D E F;rw[Below.heap_setCell _ _ _ _ E,a.block g (by simp only[size_drew,size_alloc];omega) (λe=>F e.symm)];exact Below.heap_alloc _ _ _ D
 have f:∀(g:Nat) (r:Array Value) (T:TypeId) (B:Nat × Nat),wc.heap[g]? =some (.cells r T B)->T=183\/T=3->(w7.setCell ⟨c,0,none⟩ (.slice (some ⟨q,0,none⟩) (l.length+1) b)).heap[g]? =wc.heap[g]? :=by
  intro g r T B m C;refine i g (af m) (λe=> ?_) (λe=> ?_)
  ·subst e;rw[x]at m;cases m;revert C;decide
  ·rcases k.2 with⟨h,_⟩|⟨K,z,A,h,_,G,_⟩
   ·rw[h]at e;cases e
   ·rw[h]at e;cases e;rw[G]at m;cases m;revert C;decide
 refine⟨⟨some ⟨q,0,none⟩,l.length+1,b,by simp[World.setCell,Array.getElem?_modify,J], ?_,by simp;omega,λe m=> ?_⟩, ?_⟩
 ·rw[Gt,List.length_append];have:eB [j]=nY j:=by simp[eB]
  rw[this];exact ownsRow_setCell_below n (by show c<c+1;omega) _
 ·rcases List.mem_append.mp m with h|h
  ·exact((u e h).ah o).move f
  ·rw[List.mem_singleton.mp h];exact v.move f
 ·suffices hB:Below c w w7 from hB.setCell (p:=⟨c,0,none⟩) (Nat.le_refl _) _
  refine⟨a.os.trans o.os,a.tape.trans o.tape,a.output.trans o.output,by omega,λg N=> ?_⟩;have:=i g (by omega) (by omega) (λe=>by have:=(k.lt _ e).1;omega);rw[Below.heap_setCell _ _ _ _ (by show g≠c;omega)]at this;exact this.trans (o.block g (by omega))
def iF(n:Nat):Code->Option Code
 | .region id ops b=>if id=n then some (.region id ops b)else none
 | .seq a b=>match iF n a with
  |some c=>some c
  |none=>iF n b
 | .block _ c=>iF n c
 | .scope c=>iF n c
 | .loop c=>iF n c
 | .cond _ a b=>match iF n a with
  |some c=>some c
  |none=>iF n b
 |_=>none
def RJ(f:Func):Code:=((f.body.bind (iF 16)).getD .skip)
theorem zD(d q be:Nat)(b:World)(l:List tY)(k:Option Addr)(a j:Nat)(s0 s1:ByteArray)(g pl cap:Nat)(xs:Int)(xq:Bool)(h7:l.length<=7)(k4:q<b.heap.size)(g8:d<b.heap.size)(g6:be<b.heap.size)
  (x0:b.cell? ⟨q,0,none⟩=some (.string s0)) (x1:b.cell? ⟨q,1,none⟩=some (.string s1)) (n4:b.cell? ⟨be,0,none⟩=some (.slice (some ⟨g,0,none⟩) pl cap)) (x3:b.cell? ⟨d,0,none⟩=some (.slice k a j))
  (i:b.ownsRow (d+1) 217 5 (.slice k a j) l.length (eB l)) (r:b.heap[d]? =some (.cells #[.slice k a j,.slice none 0 0,.slice none 0 0] 200 (0,0)))
  (u1 u2 u4 u5 u6 u7 u8 u9 s w x y z A B C D E F G H I J M N O Q R S T U V W X Y Z a0 a1 a2 a3 a4 a5 a6 a7 a8 a9 b0 b1 b2 b3 b4 b5 b6 b7 b8 b9 c0 c1 c2 c3 c4 c5 c6 c7 c8 c9 e0 e1 e2 e3 e4 e5 e6 e7 e8 e9 g0 g1 g2 g3 h3 h4 h5 h6 h8 h9 i1 i2 i3 i4 i5 i6 i7 i8 i9 t v:Value) (K:Act->World->Prop) (P:Ending->World->Prop)
  (hK:∀(v85 j0 j1 j2 j3 j4 j5 j6 j7 j8 j9 k0 k1 k2 k3 g4 g5:Value) (g7 h:Nat) (f:World) (L:Obj),f.ownsRow (d+1) 217 5 (.slice (some ⟨g7,0,none⟩) (l.length+1) h) (l.length+1) (eB l++ [.string s0,.string s1,.slice (some ⟨g,0,none⟩) pl cap,.int .i64 xs,.bool xq])->(b.alloc L).drew.grownBy f (slice k a j).ownBlock->f.heap[d]? =some (.cells #[.slice k a j,.slice none 0 0,.slice none 0 0] 200 (0,0))->K ⟨#[.pointer (some ⟨d,0,none⟩),u1,u2,.pointer (some ⟨q,0,none⟩),u4,u5,u6,u7,u8,u9,s,.pointer (some ⟨be,0,none⟩),w,x,.int .i64 xs,.bool xq,y,z,A,B,C,D,E,F,G,H,I,J,M,N,O,Q,R,S,T,U,V,W,X,Y,Z,a0,a1,a2,a3,a4,a5,a6,a7,a8,a9,b0,b1,b2,b3,b4,b5,b6,b7,b8,b9,c0,c1,c2,c3,c4,c5,c6,c7,c8,c9,e0,e1,e2,e3,e4,e5,e6,e7,e8,e9,g0,g1,g2,g3,v85,j0,j1,j2,j3,j4,j5,j6,j7,j8,j9,k0,k1,k2,k3,g4,g5],[]⟩ (f.setCell ⟨d,0,none⟩ (.slice (some ⟨g7,0,none⟩) (l.length+1) h))):
  Code.wp prog (RJ Tryz.f63) (Exit.then K (bodyPost prog Tryz.f63 P)) ⟨#[.pointer (some ⟨d,0,none⟩),u1,u2,.pointer (some ⟨q,0,none⟩),u4,u5,u6,u7,u8,u9,s,.pointer (some ⟨be,0,none⟩),w,x,.int .i64 xs,.bool xq,y,z,A,B,C,D,E,F,G,H,I,J,M,N,O,Q,R,S,T,U,V,W,X,Y,Z,a0,a1,a2,a3,a4,a5,a6,a7,a8,a9,b0,b1,b2,b3,b4,b5,b6,b7,b8,b9,c0,c1,c2,c3,c4,c5,c6,c7,c8,c9,e0,e1,e2,e3,e4,e5,e6,e7,e8,e9,g0,g1,g2,g3,h3,h4,h5,h6,h8,h9,i1,i2,i3,i4,i5,i6,i7,i8,i9,t,v],[]⟩ b:=by
 conv=>arg 2;whnf
 have HK:Hid _:=hK;clear hK;have p:∀o:Obj,(b.alloc o).drew.ownsRow (d+1) 217 5 (.slice k a j) l.length (eB l):=λo=>World.ownsRow.drew (World.ownsRow.alloc i o);have g9:(slice k a j).ownBlock≠some d:=λe=>by have:=(i.lt _ e).1;omega
 have n:Hid _:=r;clear r i;obtain⟨i0,hi,h0,h1,h2⟩:=info_parts TV
 go_region_law (refine step_append_lies _ rfl (.tmp 89) (.tmp 98) 197 rfl (d+1) 217 i0 _ 5 72 Tryz.underlying197 hi h0 h1 h2 rfl (by decide) (.slice k a j) l.length (eB l) (by simp[Act.eval]) (p _) ⟨b.heap.size,0,none⟩ 1 1 [.string s0,.string s1,.slice (some ⟨g,0,none⟩) pl cap,.int .i64 xs,.bool xq] (by simp[Act.eval]) rfl (World.news_of_block (bI b _)) (by intro u hu;simp only[List.mem_cons,List.not_mem_nil,or_false]at hu;rcases hu with rfl|rfl|rfl|rfl|rfl<;>rfl) (by decide) (by unfold maxLen;omega) (by omega) (by simp;omega) (b.heap.size+1) (by simp) ?_;intro g7 h f m c k5 k7;have kB:f.heap[d]? =_:=(c.block d (by simp;omega) g9.symm).trans ((Below.heap_alloc _ _ _ g8).trans n.out);have k6:=af kB;obtain⟨r0,k8,_⟩:=QN kB)
 all_goals exact HK.out _ _ _ _ _ _ _ _ _ _ _ _ _ _ _ _ _ _ _ _ _ m c kB
theorem zC(w:World)(Y:Nat)(l:List tY)(hB:uV w Y l)(h7:l.length<=7)(I:uU (l.map (·.1)))(name args body:Bs)(hn:name.length<=maxLen)(ha:args.length<=maxLen):
  Calls prog 63 #[.pointer (some ⟨Y,0,none⟩),.agg #[.string (aa name),.string (aa args),.string (aa body)]] w λe w'=>Qv w Y l args (jH (bT l) name args body) e w':=by
 obtain⟨M,f,K,a8,F,h8,b7⟩:=hB;have e8:=af a8;have a0:=tJ F h8 b7;obtain⟨W,hW⟩:∃W,W=w.alloc (.cells #[.string (aa name),.string (aa args),.string (aa body)] 48):=⟨_,rfl⟩;have b3:Hid (w.alloc (.cells #[.string (aa name),.string (aa args),.string (aa body)] 48)=W):=hW.symm;have d:Below w.heap.size w W:=by rw[hW];exact ae w _
 have e2:W.heap[w.heap.size]? =some (.cells #[.string (aa name),.string (aa args),.string (aa body)] 48 (0,0)):=by rw[hW];exact heap_alloc_new w _
 have h5:W.heap.size=w.heap.size+1:=by rw[hW];simp[size_alloc]
 have a1:=(d.block Y e8).trans a8;have a:∀x:World,Below W.heap.size W x->(x.cell? ⟨w.heap.size,0,none⟩=some (.string (aa name))/\x.cell? ⟨w.heap.size,1,none⟩=some (.string (aa args))/\x.cell? ⟨w.heap.size,2,none⟩=some (.string (aa body)))/\x.cell? ⟨Y,0,none⟩=some (.slice M f K)/\(w.heap.size<x.heap.size/\Y<x.heap.size):=by
  intro x hx;have b0:=(hx.block w.heap.size (by omega)).trans e2;have b1:=(hx.block Y (by omega)).trans a1;have:=hx.size;exact⟨⟨(ag b0).trans rfl,(ag b0).trans rfl,(ag b0).trans rfl⟩,(ag b1).trans rfl,by omega,by omega⟩
 have c9:∀x:World,Calls prog 112 #[.string (aa name)] x λe w'=>e=.returned (.bool (aS name))/\w'=x:=by
  intro x;have:=gI (aa name) x (by rw[aF];exact hn);rw[aj]at this;exact this
 have c7:∀x:World,Calls prog 113 #[.string (aa name)] x λe w'=>e=.returned (.bool (jh name))/\w'=x:=by
  intro x;have:=dw (aa name) x;rw[aj]at this;exact this
 have E:∀x:World,Calls prog 116 #[.string (aa args)] x λe w'=>e=.returned (.bool (args.all dz))/\w'=x:=by
  intro x;have:=uL (aa args) x (by rw[aF];exact ha);rw[aj]at this;exact this
 have c6:∀(x:World) (b:Nat),x.heap[b]? =some (.cells (gy.map λt=>string (aa t)).toArray 9 (0,0))->Calls prog 114 #[.slice (some ⟨b,0,none⟩) 8 8,.string (aa name)] x λe w'=>e=.returned (.bool (gN gy name))/\w'=x:=λx b hb=>uh gy 8 rfl (by omega) x b hb name;have e0:=uM;have a4:∀x:World,Below W.heap.size W x->Calls prog 67 #[.agg #[.slice none 0 0,.slice none 0 0,.string ⟨#[]⟩,.slice M f K],.string (aa name)] x λe w'=>e=.returned (.int .i64 (Aa (aV (bT l) name)))/\Below W.heap.size W w':=λx hx=>
  (eT x _ _ _ M f K _ (a0.ah (d.trans (hx.mono d.size))) name).mono λe w' h=>⟨h.1,hx.trans (h.2.mono hx.size)⟩
 have k:=Lv (fns:=bT l) name;obtain⟨wd,e6⟩:∃b,b=aS name:=⟨_,rfl⟩;obtain⟨vl,h9⟩:∃b,b=jh name:=⟨_,rfl⟩;obtain⟨wl,e7⟩:∃b,b=gN gy name:=⟨_,rfl⟩;obtain⟨fi,e3⟩:∃b,b=aV (bT l) name:=⟨_,rfl⟩;obtain⟨ty,e5⟩:∃b,b=args.all dz:=⟨_,rfl⟩;obtain⟨ow,e4⟩:∃o,o=Obj.cells (gy.map λt=>string (aa t)).toArray 9:=⟨_,rfl⟩;rw[<-e6]at c9 k;rw[<-h9]at c7 k;simp only[<-e7,<-e4]at c6;rw[<-e7,<-e3]at k;simp only[<-e3]at a4;simp only[<-e4]at e0;rw[<-e5]at E;have Z:Hid _:=k;have a6:Hid _:=e5;have l9:Hid (wd=aS name):=e6;clear e6 h9 e7 e3 e5 e4 k hW;obtain⟨⟨x0,x1,x2⟩,x3,m,s⟩:=a W (Below.refl _ _);go_enter Tryz.func63,Tryz.ntmps63;go_upto_region 3 with(first
  |(go_at_call 112;refine(c9 _).mono ?_;rintro e w2 ⟨rfl,rfl⟩)
  |(go_at_call 113;refine(c7 _).mono ?_;rintro e w2 ⟨rfl,rfl⟩))
 rw[b3.out];clear b3 c9 c7;go_cut [7] (λs7 wx=>s7=.bool wl/\Below W.heap.size W wx)
 case first=>
  clear a4 E a h5;go_region_with(first
   |(go_at_call 115;refine(e0 _).mono ?_;rintro e v ⟨rfl,rfl⟩)
   |(go_at_call 114;refine(c6 _ _ ?_).mono ?_;(first|exact heap_alloc_new _ _|exact heap_alloc_new W ow);rintro e w7 ⟨rfl,rfl⟩))
  all_goals(go_wp2_with fail;go_meet)
  all_goals exact⟨rfl,by first|exact ae W ow|exact(ae W ow).drew⟩
 case rest=>
  obtain⟨rfl,a7⟩:=hcut;clear x0 x1 x2 x3 m s c6 e0;generalize k7:wc=w3 at*;clear k7;obtain⟨⟨x0,x1,x2⟩,x3,m,s⟩:=a w3 a7;go_upto_region 4 with fail
  go_cut [8] (λs8 wx=>s8=.int .i64 (Aa fi)/\Below W.heap.size W wx)
  case first=>
   clear E a;go_region_with(go_at_call 67;refine(a4 _ ?_).mono ?_;(first|exact a7|exact a7.drew);rintro e v ⟨rfl,S⟩);all_goals(go_wp2_with fail;go_meet)
   all_goals exact⟨rfl,by first|exact S|exact S.drew⟩
  case rest=>
   obtain⟨rfl,D⟩:=hcut;clear x0 x1 x2 x3 m s a4 a7;generalize k8:wc=w4 at*;clear k8;obtain⟨⟨x0,x1,x2⟩,x3,m,s⟩:=a w4 D
   cases wd with
   |false=>
    have H:Hid (jH (bT l) name args body=.error 2):=uf (by rw[Z.out];rfl)
    go_wp2_with fail
    go_ret;exact .inl ⟨2,H.out,by decide,rfl,d.trans (D.mono d.size)⟩
   |true=>
    cases vl with
    |true=>
     have H:Hid (jH (bT l) name args body=.error 2):=uf (by rw[Z.out];rfl)
     go_wp2_with fail
     go_ret;exact .inl ⟨2,H.out,by decide,rfl,d.trans (D.mono d.size)⟩
    |false=>
     cases wl with
     |true=>
      have H:Hid (jH (bT l) name args body=.error 2):=uf (by rw[Z.out];rfl)
      go_wp2_with fail
      go_ret;exact .inl ⟨2,H.out,by decide,rfl,d.trans (D.mono d.size)⟩
     |false=>
      cases fi with
      |some k'=>
       have k4:Aa (some k')=(k':Int):=rfl;have H:Hid (jH (bT l) name args body=.error 2):=uf (by rw[Z.out];rfl)
       go_wp2_with fail
       go_ret;exact .inl ⟨2,H.out,by decide,rfl,d.trans (D.mono d.size)⟩
      |none=>
       have k4:Aa none= -1:=rfl;have J:Hid (oK (bT l) name=true):=by rw[Hid,Z.out];rfl
       have b5:(aa args).size=args.length:=aF _
       cases ty with
       |false=>
        have H:Hid (jH (bT l) name args body=.error 9):=AO J.out (by rw[tT,<-a6.out,Bool.and_false])
        go_wp2_with(go_at_call 116;refine(E _).mono ?_;rintro e w5 ⟨rfl,rfl⟩)
        go_ret;exact .inl ⟨9,H.out,by decide,rfl,d.trans (D.mono d.size)⟩
       |true=>
        by_cases h4:args.length<=4
        ·have i5:Hid (dN args=true):=by rw[Hid,tT,<-a6.out,decide_eq_true h4];rfl
         have g5:decide ((4:Int)<((aa args).size:Int))=false:=by rw[b5];simp;omega
         go_upto_region 10 with(go_at_call 116;refine(E _).mono ?_;rintro e w5 ⟨rfl,rfl⟩)
         generalize k6:w5=w4 at*;clear k6;go_cut [10] (λl4 wx=>∃X:Nat,l4=.pointer (some ⟨X,0,none⟩)/\Below w4.heap.size w4 wx/\w4.heap.size<=X/\wx.heap[X]? =some (.cells #[.slice none 0 0,.slice none 0 0,.string (aa args),.slice M f K] 214 (0,0)))
         case first=>
          clear E a h5;go_region;all_goals(go_wp2_with fail;go_meet)
          all_goals exact⟨w4.heap.size,rfl,by first|exact ae w4 _|exact(ae w4 _).drew,Nat.le_refl _,heap_alloc_new w4 _⟩
         case rest=>
          obtain⟨X,rfl,i9,n5,a2⟩:=hcut;clear x0 x1 x2 x3 m s E g5 h4;generalize k9:wc=w5 at*;clear k9;have N:Below W.heap.size W w5:=D.trans (i9.mono D.size);have c4:Below w.heap.size w w5:=d.trans (N.mono d.size);obtain⟨⟨x0,x1,x2⟩,x3,m,s⟩:=a w5 N;have g9:=af a2;obtain⟨⟨k0,k1,k2,k3⟩,_⟩:=bB a2;have Q:ol (([]:List (Bs × Int)),aK args) args (l.map (·.1)):=I.known a6.out.symm (λc hc=>by simp at hc) (λc hc=>by simp at hc);have g2:=xe w5 none 0 0 none 0 0 args M f K ([],aK args) (l.map (·.1)) (yX (a0.ah c4)) ha Q body;have g1:Hid _:=Qy (body:=body) J.out i5.out;have n2:Hid _:=e2;have l5:Hid _:=a1;clear e2 a1
          go_wp2_with(go_at_call 117;refine g2.mono ?_)
          clear g2;rintro e v ⟨S,hres⟩;have j:Below w.heap.size w v:=c4.trans (S.mono c4.size);have g4:Below W.heap.size W v:=N.trans (S.mono N.size);rcases hres with⟨n,U,h2,rfl⟩|⟨x,t,g,cap,cs,U,k5,G,u,rfl,n3,R⟩
          ·have H:Hid (jH (bT l) name args body=.error n):=by
            rw[Hid,g1.out];have:eZ bi ([],aK args) (bT l) body=.error n:=U;rw[this]
           have n6:(n==0)=false:=by simpa using h2
           clear U
           go_wp2_with fail
           go_ret;exact .inl ⟨n,H.out,h2,rfl,j.alloc j.size _⟩
          ·have H:Hid (jH (bT l) name args body=.ok ⟨name,aK args,x⟩):=by
            rw[Hid,g1.out];have:eZ bi ([],aK args) (bT l) body=.ok x:=U;rw[this]
           obtain⟨C,T⟩:∃C,(post t).length=C+1:=⟨(post t).length- 1,by have:=mX t;omega⟩;rw[T];have A:=ae v (.cells #[.slice (some ⟨g,0,none⟩) (C+1) cap] 102);have B:=(S.block X g9).trans a2;have h6:((post t).length:Int)+lV ((post t).map (Dz (l.map (·.1))))=x.size:=by
            rw[vS bi ([],aK args) (RF.list (l.map (·.1))) t x u G];congr 2;exact List.map_congr_left λy _=>GI Q y
           have a5:=xg (v.alloc (.cells #[.slice (some ⟨g,0,none⟩) (C+1) cap] 102)) none 0 0 none 0 0 args M f K ([],aK args) (l.map (·.1)) (yX (a0.ah (j.alloc j.size _))) Q g cap (post t) _ cs (R.ah A);rw[h6,T]at a5;have h3:mf (l.map (·.1)) t=x.quiet:=(zy bi Q t x u G).symm;have c1:(post t)[C]? =some t:=by have:=dE t;rw[T,Nat.add_sub_cancel]at this;exact this
           have c8:∀y:World,Below (v.alloc (.cells #[.slice (some ⟨g,0,none⟩) (C+1) cap] 102)).heap.size (v.alloc (.cells #[.slice (some ⟨g,0,none⟩) (C+1) cap] 102)) y->Calls prog 119 #[.agg #[.slice none 0 0,.slice none 0 0,.string (aa args),.slice M f K],.agg #[.slice (some ⟨g,0,none⟩) (C+1) cap],.int .i64 (C:Int)] y λe w'=>e=.returned (.bool x.quiet)/\Below y.heap.size y w':=by
            intro y hy;have:=uK (SizeOf.sizeOf t) t y none 0 0 none 0 0 args M f K ([],aK args) (l.map (·.1)) g cap (post t) _ cs C (Nat.le_refl _) (yX (a0.ah ((j.alloc j.size _).trans (hy.mono (j.alloc j.size _).size)))) Q ((R.ah A).ah hy) c1;rw[h3,T]at this;exact this
           obtain⟨⟨j0,j1,j2,j3⟩,_⟩:=bB ((A.block X (af B)).trans B);have b8:=heap_alloc_new v (.cells #[.slice (some ⟨g,0,none⟩) (C+1) cap] 102);obtain⟨j4,_⟩:=mO b8;have O:X<(v.alloc (.cells #[.slice (some ⟨g,0,none⟩) (C+1) cap] 102)).heap.size:=by rw[size_alloc];have:=af B;omega
           have b9:v.heap.size<(v.alloc (.cells #[.slice (some ⟨g,0,none⟩) (C+1) cap] 102)).heap.size:=by rw[size_alloc];omega
           have B7:Below W.heap.size W (v.alloc (.cells #[.slice (some ⟨g,0,none⟩) (C+1) cap] 102)):=g4.alloc g4.size _;have n1:Below w.heap.size w (v.alloc (.cells #[.slice (some ⟨g,0,none⟩) (C+1) cap] 102)):=j.alloc j.size _;have l7:Hid _:=(A.block X (af B)).trans B;have i1:Hid _:=R.ah A;have c2:0<=x.size/\x.size<=300:=tH (λfn g8=>by
            rw[RF.list,List.mem_map]at g8;obtain⟨r,V,rfl⟩:=g8;exact I.BK r V) U
           have c3:dW x.ty:=wm bi Q t x u G;have m6:C+1<=1000:=by have:=R.small;omega
           have j5:C+1<=cap:=by have:=R.cap;omega
           have i3:Hid _:=T;have i8:Hid _:=c3;have i4:Hid _:=c2;have g3:Hid _:=G;have i0:Hid _:=u;clear T h6 h3 c1 U k5 G u R B A b8 c3 c2 x0 x1 x2 x3 m s k0 k1 k2 k3;generalize l0:v.alloc (.cells #[.slice (some ⟨g,0,none⟩) (C+1) cap] 102)=w7 at*;obtain⟨⟨x0,x1,x2⟩,x3,m,s⟩:=a w7 B7;obtain⟨xs,g0⟩:∃z,z=x.size:=⟨_,rfl⟩;obtain⟨xq,e9⟩:∃z,z=x.quiet:=⟨_,rfl⟩;rw[<-g0]at a5;simp only[<-e9]at c8;have i7:Hid _:=g0;have i6:Hid _:=e9;clear g0 e9;go_upto_region 16 with(first
            |(go_at_call 118;refine a5.mono ?_;rintro e w8 ⟨rfl,hb8⟩;have m0:=(hb8.cell (p:=⟨X,0,none⟩) O).trans j0;have m1:=(hb8.cell (p:=⟨X,1,none⟩) O).trans j1;have m2:=(hb8.cell (p:=⟨X,2,none⟩) O).trans j2;have m3:=(hb8.cell (p:=⟨X,3,none⟩) O).trans j3;have m4:=(hb8.cell (p:=⟨v.heap.size,0,none⟩) b9).trans j4)
            |(go_at_call 119;refine(c8 _ hb8).mono ?_;rintro e w9 ⟨rfl,hb9⟩))
           have B8:Below W.heap.size W w8:=B7.trans (hb8.mono B7.size);have B9:Below W.heap.size W w9:=B8.trans (hb9.mono B8.size);have c5:Below w.heap.size w w9:=d.trans (B9.mono d.size);have c0:v.heap.size<w8.heap.size:=Nat.lt_of_lt_of_le b9 hb8.size;have n4:=(hb9.cell (p:=⟨v.heap.size,0,none⟩) c0).trans m4;have g6:v.heap.size<w9.heap.size:=Nat.lt_of_lt_of_le c0 hb9.size;have P:w9.ownsRow (Y+1) 217 5 (.slice M f K) l.length (eB l):=aA F λq hq=>c5.block q (F.lt q hq).2;have l8:∀o:Obj,(w9.alloc o).drew.ownsRow (Y+1) 217 5 (.slice M f K) l.length (eB l):=λo=>World.ownsRow.drew (World.ownsRow.alloc P o);have n7:(slice M f K).ownBlock≠some Y:=λe=>by have:=(P.lt _ e).1;omega
           have m7:(slice M f K).ownBlock≠some w.heap.size:=λe=>by have:=(F.lt _ e).2;omega
           have m8:(slice M f K).ownBlock≠some v.heap.size:=λe=>by have:=(F.lt _ e).2;have:=j.size;omega
           have b6:=(c5.block Y e8).trans a8;have b4:Hid _:=b6;have i2:Hid _:=(i1.out.ah hb8).ah hb9;clear x0 x1 x2 x3 m s m0 m1 m2 m3 m4 j0 j1 j2 j3 j4 a5 c8 b6 a0 a8 l0;obtain⟨⟨x0,x1,x2⟩,x3,m,s⟩:=a w9 B9;refine zD Y w.heap.size v.heap.size w9 l M f K (aa name) (aa args) g (C+1) cap xs xq h7 m s g6 x0 x1 n4 x3 P b4.out _ _ _ _ _ _ _ _ _ _ _ _ _ _ _ _ _ _ _ _ _ _ _ _ _ _ _ _ _ _ _ _ _ _ _ _ _ _ _ _ _ _ _ _ _ _ _ _ _ _ _ _ _ _ _ _ _ _ _ _ _ _ _ _ _ _ _ _ _ _ _ _ _ _ _ _ _ _ _ _ _ _ _ _ _ _ _ _ _ _ _ _ _ _ _ _ _ _ _ ?_;intro v85 n8 n9 o0 o1 o2 o3 o4 o5 o6 o7 o8 o9 p0 p1 m9 n0 g7 m5 p2 L a3 a9 kB;dsimp only
           go_wp2_with fail
           go_ret;all_goals
            have j6: [.string (aa name),.string (aa args),.slice (some ⟨g,0,none⟩) (C+1) cap,.int .i64 xs,.bool xq]=nY ((⟨⟨name,aK args,x⟩,args,t⟩:RF),g,cap):=by
             rw[nY,i7.out,i6.out];simp only[i3.out]
            rw[j6]at a3;have e1:kz w9 ((⟨⟨name,aK args,x⟩,args,t⟩:RF),g,cap):=by
             refine⟨cs,_,i2.out, ?_⟩;show lK bi ([],aK args) (RF.list (l.map (·.1))) (post t) (post t).length ((post t).length- 1)=mZ x.ty;rw[lK,if_pos (by have:=mX t;omega),dE t];show SE (aY bi ([],aK args) (RF.list (l.map (·.1))) t)=mZ x.ty;rw[g3.out];rfl
            obtain⟨A1,A2⟩:=Uj e8 c5 b4.out P h7 b7 e1 a3 a9 kB;have j7:bM name=false:=by
             have h1:=J.out;unfold oK at h1;simp only[Bool.and_eq_true,Bool.not_eq_true']at h1;exact h1.1.2
            have b2:∀r∈(l++ [((⟨⟨name,aK args,x⟩,args,t⟩:RF),g,cap)]).map (·.1),r∈l.map (·.1)\/r=⟨⟨name,aK args,x⟩,args,t⟩:=by
             intro r V;rw[List.map_append,List.mem_append]at V;rcases V with h|h
             ·exact .inl h
             ·simp at h;exact .inr h
            refine .inr ⟨_,t,g,cap,H.out,rfl,A1,⟨λr V=> ?_,λr V=> ?_,λr V=> ?_,λr V=> ?_,λi r hi=> ?_⟩,A2⟩
            ·rcases b2 r V with h|rfl
             ·exact I.Ux r h
             ·exact i8.out
            ·rcases b2 r V with h|rfl
             ·exact I.EL r h
             ·exact⟨rfl,a6.out.symm⟩
            ·rcases b2 r V with h|rfl
             ·exact I.free r h
             ·exact j7
            ·rcases b2 r V with h|rfl
             ·exact I.BK r h
             ·exact i4.out
            ·rw[List.map_append]at hi ⊢;rcases Nat.lt_or_ge i (l.map (·.1)).length with h|h
             ·rw[List.getElem?_append_left h]at hi;rw[List.take_append_of_le_length (by omega)];exact I.Vx i r hi
             ·rw[List.getElem?_append_right h]at hi;have h0:i- (l.map (·.1)).length=0:=by have:=(List.getElem?_eq_some_iff.mp hi).1;simp at this ⊢;omega
              rw[h0]at hi;have j8:(⟨⟨name,aK args,x⟩,args,t⟩:RF)=r:=by simpa using hi
              subst j8;have j9:i=(l.map (·.1)).length:=by omega
              rw[j9,List.take_append_of_le_length (Nat.le_refl _),List.take_length];exact⟨g3.out,i0.out⟩
        ·have H:Hid (jH (bT l) name args body=.error 9):=AO J.out (by rw[tT,decide_eq_false h4];rfl);have g5:decide ((4:Int)<((aa args).size:Int))=true:=by rw[b5];simp;omega
         go_wp2_with(go_at_call 116;refine(E _).mono ?_;rintro e w5 ⟨rfl,rfl⟩)
         go_ret;exact .inl ⟨9,H.out,by decide,rfl,d.trans (D.mono d.size)⟩
def Ea(w:World)(v:Value)(ns:List Bs):Prop:=∃ao cap,v=.slice ao ns.length cap/\ns.length<=1000/\(ns= []\/∃b,ao=some ⟨b,0,none⟩/\b<w.heap.size/\∀(i:Nat) (n:Bs),ns[i]? =some n->w.cell? ⟨b,i*6,none⟩=some (.string (aa n)))
def iT(ns:List Bs)(l:Bs)(i:Nat):Option Nat:=((ns.drop i).findIdx? (λn=>n==l)).map (· +i)
theorem DD(ns:List Bs)(l:Bs):iT ns l 0=ns.findIdx? (λn=>n==l):=by
 unfold iT;simp
theorem GQ{ns:List Bs}{l:Bs}{i:Nat}(a:i<ns.length)(h:(ns[i]==l)=true):iT ns l i=some i:=by
 unfold iT;rw[List.drop_eq_getElem_cons a,List.findIdx?_cons,h];simp
theorem DC{ns:List Bs}{l:Bs}{i:Nat}(a:i<ns.length)(h:(ns[i]==l)=false):iT ns l i=iT ns l (i+1):=by
 unfold iT;rw[List.drop_eq_getElem_cons a,List.findIdx?_cons,h];simp only[Bool.false_eq_true,if_false,Option.map_map];congr 1;funext x;simp;omega
theorem GN{ns:List Bs}{l:Bs}{i:Nat}(a:ns.length<=i):iT ns l i=none:=by
 unfold iT;rw[List.drop_of_length_le a];rfl
theorem Dl(w:World)(r:Nat)(c:Option Addr)(q p:Nat)(ns:List Bs)(z:w.cell? ⟨r,1,none⟩=some (.slice c q p))(h:Ea w (.slice c q p) ns)(l:Bs):
  Calls prog 79 #[.pointer (some ⟨r,0,none⟩),.string (aa l)] w λe w'=>e=.returned (.int .i64 (Aa (ns.findIdx? (λn=>n==l))))/\Below w.heap.size w w':=by
 obtain⟨u,cap,j,v,o⟩:=h
 cases j;have f:Hid _:=DD ns l;have k:Hid _:=o;clear o;go_enter Tryz.func79,Tryz.ntmps79
 go_wp2_with fail
 go_loop [5] (λt=>∃i:Nat,i<=ns.length/\t=.int .i64 i/\Hid (iT ns l 0=iT ns l i)) (λi=>ns.length- (intOf i).toNat)
 case atStart=>exact⟨0,Nat.zero_le _,rfl,rfl⟩
 case round=>
  obtain⟨i,x,rfl,d⟩:=hrel;by_cases a:i<ns.length
  ·obtain⟨b,rfl,hb,m⟩:∃b,c=some ⟨b,0,none⟩/\b<w.heap.size/\∀(i:Nat) (n:Bs),ns[i]? =some n->w.cell? ⟨b,i*6,none⟩=some (.string (aa n)):=by
    rcases k.out with h|h
    ·subst h;simp at a
    ·exact h
   have A:=m i ns[i] (List.getElem?_eq_getElem a);have y:(aa ns[i]).toList=ns[i]:=aj _;have s:(aa l).toList=l:=aj _;clear m k
   cases j:(ns[i]==l)with
   |true=>
    have g:Hid (ns.findIdx? (λn=>n==l)=some i):=by rw[Hid,<-f.out,d.out,GQ a j]
    clear f d
    go_wp2_with fail
    go_ret;exact⟨by rw[g.out];rfl,Below.refl _ _⟩
   |false=>
    have g:Hid (iT ns l 0=iT ns l (i+1)):=by rw[Hid,d.out,DC a j]
    clear f d
    go_wp2_with fail
    go_round
    case rel=>exact⟨i+1,by omega,by go_num,g⟩
    case measure=>simp[intOf];omega
  ·have g:Hid (ns.findIdx? (λn=>n==l)=none):=by rw[Hid,<-f.out,d.out,GN (by omega)]
   clear f d k
   go_wp2_with fail
   go_ret;exact⟨by rw[g.out];rfl,Below.refl _ _⟩
theorem Gl(k n:Int)(s:ByteArray)(w:World):Calls prog 74 #[.agg #[.int .i64 k,.int .i64 n,.string s],.int .u8 110] w λe w'=>e=.returned (.bool (bH (k,n,s.toList) 1))/\Below w.heap.size w w':=by
 have b:=ae w (.cells #[.int .i64 k,.int .i64 n,.string s] 56);by_cases c:k=0
 ·subst c;have a:Hid (bH (0,n,s.toList) 1=((n==0)&&s.toList.isEmpty)):=by
   rw[Hid,bH,dm,if_pos rfl];simp
  cases j:(n==0)<;>rw[j]at a<;>
  ·go_enter Tryz.func74,Tryz.ntmps74
   go_wp2_with fail
   go_ret;exact⟨by rw[a.out];rfl,b⟩
 ·by_cases d:k=1
  ·subst d;have a:Hid (bH (1,n,s.toList) 1=(s.toList.isEmpty&&(decide (-1000000000<=n)&&decide (n<=1000000000)))):=by
    rw[Hid,bH,dm,if_neg (by omega),if_pos rfl,aP]
    cases s.toList.isEmpty<;>simp
   cases i:s.toList.isEmpty<;>cases h:decide (-1000000000<=n)<;>cases hb:decide (n<=1000000000)<;>rw[i,h,hb]at a<;>
   ·go_enter Tryz.func74,Tryz.ntmps74
    go_wp2_with fail
    go_ret;exact⟨by rw[a.out];rfl,b⟩
  ·by_cases f:k=2
   ·subst f;have a:Hid (bH (2,n,s.toList) 1=false):=by rw[Hid,bH];simp
    ·go_enter Tryz.func74,Tryz.ntmps74
     go_wp2_with fail
     go_ret;exact⟨by rw[a.out];rfl,b⟩
   ·by_cases g:k=3
    ·subst g;have a:Hid (bH (3,n,s.toList) 1=false):=by rw[Hid,bH];simp
     ·go_enter Tryz.func74,Tryz.ntmps74
      go_wp2_with fail
      go_ret;exact⟨by rw[a.out];rfl,b⟩
    ·have a:Hid (bH (k,n,s.toList) 1=false):=by rw[Hid,bH,dm,if_neg c,if_neg d,if_neg f,if_neg g];rfl
     have l:(k==0)=false:=by simpa using c
     have m:(k==1)=false:=by simpa using d
     have o:(k==2)=false:=by simpa using f
     have p:(k==3)=false:=by simpa using g
     go_enter Tryz.func74,Tryz.ntmps74
     go_wp2_with fail
     go_ret;exact⟨by rw[a.out];rfl,b⟩
theorem Gm(k n:Int)(s:ByteArray)(w:World):Calls prog 74 #[.agg #[.int .i64 k,.int .i64 n,.string s],.int .u8 116] w λe w'=>e=.returned (.bool (bH (k,n,s.toList) 2))/\Below w.heap.size w w':=by
 have b:=ae w (.cells #[.int .i64 k,.int .i64 n,.string s] 56);by_cases c:k=0
 ·subst c;have a:Hid (bH (0,n,s.toList) 2=((n==0)&&s.toList.isEmpty)):=by
   rw[Hid,bH,dm,if_pos rfl];simp
  cases h:(n==0)<;>rw[h]at a<;>
  ·go_enter Tryz.func74,Tryz.ntmps74
   go_wp2_with fail
   go_ret;exact⟨by rw[a.out];rfl,b⟩
 ·by_cases d:k=1
  ·subst d;have a:Hid (bH (1,n,s.toList) 2=false):=by rw[Hid,bH];simp
   ·go_enter Tryz.func74,Tryz.ntmps74
    go_wp2_with fail
    go_ret;exact⟨by rw[a.out];rfl,b⟩
  ·by_cases f:k=2
   ·subst f;have a:Hid (bH (2,n,s.toList) 2=((n==0)&&decide ((s.size:Int)<=30))):=by
     have e:decide (s.toList.length<=30)=decide ((s.size:Int)<=30):=by rw[ai];simp;omega
     rw[Hid,bH,dm,if_neg (by omega),if_neg (by omega),if_pos rfl,e];simp
    cases h:(n==0)<;>cases hb:decide ((s.size:Int)<=30)<;>rw[h,hb]at a<;>
    ·go_enter Tryz.func74,Tryz.ntmps74
     go_wp2_with fail
     go_ret;exact⟨by rw[a.out];rfl,b⟩
   ·by_cases g:k=3
    ·subst g;have a:Hid (bH (3,n,s.toList) 2=false):=by rw[Hid,bH];simp
     ·go_enter Tryz.func74,Tryz.ntmps74
      go_wp2_with fail
      go_ret;exact⟨by rw[a.out];rfl,b⟩
    ·have a:Hid (bH (k,n,s.toList) 2=false):=by rw[Hid,bH,dm,if_neg c,if_neg d,if_neg f,if_neg g];rfl
     have i:(k==0)=false:=by simpa using c
     have j:(k==1)=false:=by simpa using d
     have l:(k==2)=false:=by simpa using f
     have m:(k==3)=false:=by simpa using g
     go_enter Tryz.func74,Tryz.ntmps74
     go_wp2_with fail
     go_ret;exact⟨by rw[a.out];rfl,b⟩
theorem Gj(k n:Int)(s:ByteArray)(w:World):Calls prog 74 #[.agg #[.int .i64 k,.int .i64 n,.string s],.int .u8 98] w λe w'=>e=.returned (.bool (bH (k,n,s.toList) 3))/\Below w.heap.size w w':=by
 have b:=ae w (.cells #[.int .i64 k,.int .i64 n,.string s] 56);by_cases c:k=0
 ·subst c;have a:Hid (bH (0,n,s.toList) 3=((n==0)&&s.toList.isEmpty)):=by
   rw[Hid,bH,dm,if_pos rfl];simp
  cases h:(n==0)<;>rw[h]at a<;>
  ·go_enter Tryz.func74,Tryz.ntmps74
   go_wp2_with fail
   go_ret;exact⟨by rw[a.out];rfl,b⟩
 ·by_cases d:k=1
  ·subst d;have a:Hid (bH (1,n,s.toList) 3=false):=by rw[Hid,bH];simp
   ·go_enter Tryz.func74,Tryz.ntmps74
    go_wp2_with fail
    go_ret;exact⟨by rw[a.out];rfl,b⟩
  ·by_cases f:k=2
   ·subst f;have a:Hid (bH (2,n,s.toList) 3=false):=by rw[Hid,bH];simp
    ·go_enter Tryz.func74,Tryz.ntmps74
     go_wp2_with fail
     go_ret;exact⟨by rw[a.out];rfl,b⟩
   ·by_cases g:k=3
    ·subst g;have a:Hid (bH (3,n,s.toList) 3=(s.toList.isEmpty&&((n==0)||(n==1)))):=by
      rw[Hid,bH,dm,if_neg (by omega),if_neg (by omega),if_neg (by omega),if_pos rfl]
      cases s.toList.isEmpty<;>simp
     cases i:s.toList.isEmpty<;>cases h:(n==0)<;>cases j:(n==1)<;>rw[i,h,j]at a<;>
     ·go_enter Tryz.func74,Tryz.ntmps74
      go_wp2_with fail
      go_ret;exact⟨by rw[a.out];rfl,b⟩
    ·have a:Hid (bH (k,n,s.toList) 3=false):=by rw[Hid,bH,dm,if_neg c,if_neg d,if_neg f,if_neg g];rfl
     have l:(k==0)=false:=by simpa using c
     have m:(k==1)=false:=by simpa using d
     have o:(k==2)=false:=by simpa using f
     have p:(k==3)=false:=by simpa using g
     go_enter Tryz.func74,Tryz.ntmps74
     go_wp2_with fail
     go_ret;exact⟨by rw[a.out];rfl,b⟩
theorem sD(k n:Int)(s:ByteArray)(c:UInt8)(a:dz c=true)(w:World):Calls prog 74 #[.agg #[.int .i64 k,.int .i64 n,.string s],.int .u8 (c.toNat:Int)] w λe w'=>e=.returned (.bool (bH (k,n,s.toList) (gL c.toNat)))/\Below w.heap.size w w':=by
 unfold dz at a;simp only[Bool.or_eq_true,beq_iff_eq]at a;rcases a with(rfl|rfl)|rfl
 ·exact Gl k n s w
 ·exact Gm k n s w
 ·exact Gj k n s w
theorem Od(l n:Bs)(d:Int):(fF (n,l,d)==0)= !(l.all dz&&decide (l.length=1)):=by
 match l with
 | []=>rfl
 | [c]=>
  show(gL c.toNat==0)= !(([c]:Bs).all dz&&true);simp only[List.all_cons,List.all_nil,Bool.and_true]
  cases h:dz c with
  |true=>
   have:=(kV h).1;rw[show(!true)=false from rfl,beq_eq_false_iff_ne];rcases this with e|e|e<;>rw[e]<;>decide
  |false=>
   unfold dz at h;simp only[Bool.or_eq_false_iff,beq_eq_false_iff_ne]at h;have f:¬((c.toNat:Int)=110):=λe=>h.1.1 (UInt8.toNat_inj.mp (by simpa using Int.ofNat.inj e));have g:¬((c.toNat:Int)=116):=λe=>h.1.2 (UInt8.toNat_inj.mp (by simpa using Int.ofNat.inj e));have i:¬((c.toNat:Int)=98):=λe=>h.2 (UInt8.toNat_inj.mp (by simpa using Int.ofNat.inj e));simp[gL,f,g,i]
 |a::b::r=>simp[fF]
theorem lF(c:dV):kH c=(aS c.1&&(c.2.1.all dz&&decide (c.2.1.length=1))&&decide (1<=c.2.2)&&decide (c.2.2<=1000000)):=by
 obtain⟨n,l,d⟩:=c;rw[kH,Od];simp
theorem EY{t:aT}(h:¬(1<=t.ay.length/\t.ay.length<=4/\0<=t.count/\t.count<=1000000/\t.rows.length<=10)):cu t=false:=by
 cases hb:cu t with
 |false=>rfl
 |true=>
  exfalso;apply h;unfold cu bL fq at hb;simp only[Bool.and_eq_true,Bool.not_eq_true',Bool.or_eq_false_iff,decide_eq_false_iff_not,decide_eq_true_eq]at hb;omega
theorem EZ{t:aT}(h:1<=t.ay.length/\t.ay.length<=4/\0<=t.count/\t.count<=1000000/\t.rows.length<=10):cu t=(bS [] t.ay&&t.rows.all λr=>gz r t.ay):=by
 obtain⟨c,d,a,b,e⟩:=h;unfold cu bL fq;rw[decide_eq_false (by omega),decide_eq_false (by omega),decide_eq_true a,decide_eq_true b,decide_eq_false (by omega)];simp
theorem zH(w:World)(t:aT)(co:Option Addr)(cc:Nat)(ro:Option Addr)(rc:Nat)(uo:Option Addr)(un uc:Nat)
  (h:¬(1<=t.ay.length/\t.ay.length<=4/\0<=t.count/\t.count<=1000000/\t.rows.length<=10)):
  Calls prog 120 #[.agg #[.string (aa t.name),.slice co t.ay.length cc,.slice ro t.rows.length rc,.int .i64 t.count,.string (aa t.aG),.slice uo un uc]] w λe w'=>e=.returned (.bool (cu t))/\Below w.heap.size w w':=by
 have i:Hid (cu t=false):=EY h;have a:=ae w (.cells #[.string (aa t.name),.slice co t.ay.length cc,.slice ro t.rows.length rc,.int .i64 t.count,.string (aa t.aG),.slice uo un uc] 54);obtain⟨g,c⟩:∃n,n=t.ay.length:=⟨_,rfl⟩;obtain⟨l,d⟩:∃n,n=t.rows.length:=⟨_,rfl⟩;obtain⟨f,b⟩:∃n,n=t.count:=⟨_,rfl⟩;rw[<-c,<-d,<-b]at h ⊢;rw[<-c,<-d,<-b]at a;clear c d b;by_cases m:g<1
 ·have d1:decide ((g:Int)<1)=true:=by simp;omega
  go_enter Tryz.func120,Tryz.ntmps120
  go_wp2_with fail
  go_ret;exact⟨ax i.out.symm,a⟩
 ·have d1:decide ((g:Int)<1)=false:=by simp;omega
  by_cases o:4<g
  ·have d2:decide ((4:Int)<(g:Int))=true:=by simp;omega
   go_enter Tryz.func120,Tryz.ntmps120
   go_wp2_with fail
   go_ret;exact⟨ax i.out.symm,a⟩
  ·have d2:decide ((4:Int)<(g:Int))=false:=by simp;omega
   by_cases j:f<0
   ·have d3:decide (f<0)=true:=decide_eq_true j;go_enter Tryz.func120,Tryz.ntmps120
    go_wp2_with fail
    go_ret;exact⟨ax i.out.symm,a⟩
   ·have d3:decide (f<0)=false:=decide_eq_false j;by_cases k:1000000<f
    ·have d4:decide (1000000<f)=true:=decide_eq_true k;go_enter Tryz.func120,Tryz.ntmps120
     go_wp2_with fail
     go_ret;exact⟨ax i.out.symm,a⟩
    ·have d4:decide (1000000<f)=false:=decide_eq_false k;have d5:decide ((10:Int)<(l:Int))=true:=by simp;omega
     go_enter Tryz.func120,Tryz.ntmps120
     go_wp2_with fail
     go_ret;exact⟨ax i.out.symm,a⟩
end Go.Proofs.YtdifpeaklamhnaaGreatDoor
