import Derived.Test.YtdifpeaklamhnaaGreatDoorRtOZ
set_option linter.unusedVariables false
set_option linter.unusedSimpArgs false
set_option maxRecDepth 100000
set_option maxHeartbeats 0
namespace Go.Proofs.YtdifpeaklamhnaaGreatDoor
open Go.Proofs.Tryz
open Go.RowKit
open Value (slice)
theorem Tz:(Tryz.prog.info? 217).map (λi=>(i.zero,i.size,i.bytes))=some (some (.agg #[.string ⟨#[]⟩,.string ⟨#[]⟩,.slice none 0 0,.int .i64 0,.bool false]),5,72):=by kernel_rfl
def bW(l:List wB):List Fn:=RF.list (l.map (·.1))
def QB(w:World)(xb:Nat)(l:List wB)(args:Bs)(o:Except Int Fn)(e:Ending)(w':World):Prop:=
 (∃n:Int,o=.error n/\n≠0/\e=.returned (.int .i64 n)/\Below w.heap.size w w')\/
 (∃(fn:Fn) (t:Tr) (g cap:Nat),o=.ok fn/\e=.returned (.int .i64 0)/\uY w' xb (l++ [(⟨fn,args,t⟩,g,cap)])/\ug ((l++ [((⟨fn,args,t⟩:RF),g,cap)]).map (·.1))/\Below xb w w')
theorem yP{w:World}{b:Value}{a:List RF}(h:jk w b a):nN w none 0 0 none 0 0 b [] a:=⟨rfl,rfl,by simp,.inl rfl,.inl rfl,by simp,by simp,h⟩
theorem uh{fns:List Fn}{name args body:Bs}(h:oG fns name=false):jE fns name args body=.error 2:=by
 rw[jE,h];rfl
theorem Ap{fns:List Fn}{name args body:Bs}(h:oG fns name=true)(a:dQ args=false):jE fns name args body=.error 9:=by
 rw[jE,h,a];rfl
theorem QD{fns:List Fn}{name args body:Bs}(h:oG fns name=true)(a:dQ args=true):jE fns name args body=match eG bA ([],aP args) fns body with| .error n=>.error n| .ok x=>.ok ⟨name,aP args,x⟩:=by
 rw[jE,h,a];rfl
theorem QN{x:World}{b:Nat}{a0 a1 a2:Value}{T:TypeId}(h:x.heap[b]? =some (.cells #[a0,a1,a2] T (0,0))):x.cell? ⟨b,0,none⟩=some a0/\x.frozen? ⟨b,0,none⟩=false/\x.cell? ⟨b,1,none⟩=some a1/\x.cell? ⟨b,2,none⟩=some a2:=by
 simp[World.cell?,World.frozen?,h]
theorem iY.move{w x:World}{g cap:Nat}{l:List Tr}{ty:Nat->Int}{cs:List Value}(h:iY w g cap l ty cs)(f:∀(q:Nat) (b:Array Value) (T:TypeId) (i:Nat × Nat),w.heap[q]? =some (.cells b T i)->T=183\/T=3->x.heap[q]? =w.heap[q]?):iY x g cap l ty cs:=by
 refine⟨aA h.own λq a=> ?_,λj t r=> ?_,h.small,h.Ou⟩
 ·rcases h.own.2 with⟨c,_⟩|⟨_,_,_,c,_,d,_⟩
  ·cases c
  ·cases c;cases a;exact f _ _ _ _ d (.inl rfl)
 ·obtain⟨v,is,k,m,n,o,e,p⟩:=h.nodes j t r;refine⟨v,is,k,m,n,o,aA e λq a=> ?_,p⟩;rcases e.2 with⟨rfl,_⟩|⟨_,_,_,rfl,_,d,_⟩
  ·cases a
  ·cases a;exact f _ _ _ _ d (.inr rfl)
theorem lu.move{w x:World}{e:wB}(h:lu w e)(f:∀(q:Nat) (a:Array Value) (T:TypeId) (b:Nat × Nat),w.heap[q]? =some (.cells a T b)->T=183\/T=3->x.heap[q]? =w.heap[q]?):lu x e:=by
 obtain⟨cs,tX,c,d⟩:=h;exact⟨cs,tX,c.move f,d⟩
theorem TM{w wc w7:World}{L:Obj}{c q b:Nat}{l:List wB}{t:Option Addr}{d s:Nat}{j:wB}
  (I:c<w.heap.size) (o:Below w.heap.size w wc) (x:wc.heap[c]? =some (.cells #[.slice t d s,.slice none 0 0,.slice none 0 0] 200 (0,0))) (k:wc.ownsRow (c+1) 217 5 (.slice t d s) l.length (eY l)) (M:l.length<=7) (u:∀e∈l,lu w e) (v:lu wc j)
  (n:w7.ownsRow (c+1) 217 5 (.slice (some ⟨q,0,none⟩) (l.length+1) b) (l.length+1) (eY l++nU j))
  (a:(wc.alloc L).drew.grownBy w7 (slice t d s).ownBlock)
  (J:w7.heap[c]? =some (.cells #[.slice t d s,.slice none 0 0,.slice none 0 0] 200 (0,0))):
  uY (w7.setCell ⟨c,0,none⟩ (.slice (some ⟨q,0,none⟩) (l.length+1) b)) c (l++ [j])/\Below c w (w7.setCell ⟨c,0,none⟩ (.slice (some ⟨q,0,none⟩) (l.length+1) b)):=by
 have H:=o.size;have y:=a.size;simp only[World.size_drew,World.size_alloc]at y;have i:∀g,g<wc.heap.size->g≠c->(slice t d s).ownBlock≠some g->(w7.setCell ⟨c,0,none⟩ (.slice (some ⟨q,0,none⟩) (l.length+1) b)).heap[g]? =wc.heap[g]? :=by
  intro g D E F;rw[Below.heap_setCell _ _ _ _ E,a.block g (by simp only[World.size_drew,World.size_alloc];omega) (λe=>F e.symm)];exact Below.heap_alloc _ _ _ D
 have f:∀(g:Nat) (r:Array Value) (T:TypeId) (B:Nat × Nat),wc.heap[g]? =some (.cells r T B)->T=183\/T=3->(w7.setCell ⟨c,0,none⟩ (.slice (some ⟨q,0,none⟩) (l.length+1) b)).heap[g]? =wc.heap[g]? :=by
  intro g r T B m C;refine i g (ai m) (λe=> ?_) (λe=> ?_)
  ·subst e;rw[x]at m;cases m;revert C;decide
  ·rcases k.2 with⟨h,_⟩|⟨K,z,A,h,_,G,_⟩
   ·rw[h]at e;cases e
   ·rw[h]at e;cases e;rw[G]at m;cases m;revert C;decide
 refine⟨⟨some ⟨q,0,none⟩,l.length+1,b,by simp[World.setCell,Array.getElem?_modify,J], ?_,by simp;omega,λe m=> ?_⟩, ?_⟩
 ·rw[Gr,List.length_append];have:eY [j]=nU j:=by simp[eY]
  rw[this];exact ownsRow_setCell_below n (by show c<c+1;omega) _
 ·rcases List.mem_append.mp m with h|h
  ·exact((u e h).ag o).move f
  ·rw[List.mem_singleton.mp h];exact v.move f
 ·suffices hB:Below c w w7 from hB.setCell (p:=⟨c,0,none⟩) (Nat.le_refl _) _
  refine⟨a.os.trans o.os,a.tape.trans o.tape,a.output.trans o.output,by omega,λg N=> ?_⟩;have:=i g (by omega) (by omega) (λe=>by have:=(k.lt _ e).1;omega);rw[Below.heap_setCell _ _ _ _ (by show g≠c;omega)]at this;exact this.trans (o.block g (by omega))
def iZ(n:Nat):Code->Option Code
 | .region id ops b=>if id=n then some (.region id ops b)else none
 | .seq a b=>match iZ n a with
  |some c=>some c
  |none=>iZ n b
 | .block _ c=>iZ n c
 | .scope c=>iZ n c
 | .loop c=>iZ n c
 | .cond _ a b=>match iZ n a with
  |some c=>some c
  |none=>iZ n b
 |_=>none
def RJ(f:Func):Code:=((f.body.bind (iZ 16)).getD .skip)
theorem zh(d q be:Nat)(b:World)(l:List wB)(k:Option Addr)(a j:Nat)(s0 s1:ByteArray)(g pl cap:Nat)(xs:Int)(xq:Bool)(h7:l.length<=7)(k4:q<b.heap.size)(g8:d<b.heap.size)(g6:be<b.heap.size)
  (x0:b.cell? ⟨q,0,none⟩=some (.string s0)) (x1:b.cell? ⟨q,1,none⟩=some (.string s1)) (n4:b.cell? ⟨be,0,none⟩=some (.slice (some ⟨g,0,none⟩) pl cap)) (x3:b.cell? ⟨d,0,none⟩=some (.slice k a j))
  (i:b.ownsRow (d+1) 217 5 (.slice k a j) l.length (eY l)) (r:b.heap[d]? =some (.cells #[.slice k a j,.slice none 0 0,.slice none 0 0] 200 (0,0)))
  (u1 u2 u4 u5 u6 u7 u8 u9 s w x y z A B C D E F G H I J M N O Q R S T U V W X Y Z a0 a1 a2 a3 a4 a5 a6 a7 a8 a9 b0 b1 b2 b3 b4 b5 b6 b7 b8 b9 c0 c1 c2 c3 c4 c5 c6 c7 c8 c9 e0 e1 e2 e3 e4 e5 e6 e7 e8 e9 g0 g1 g2 g3 h3 h4 h5 h6 h8 h9 i1 i2 i3 i4 i5 i6 i7 i8 i9 t v:Value) (K:Act->World->Prop) (P:Ending->World->Prop)
  (hK:∀(v85 j0 j1 j2 j3 j4 j5 j6 j7 j8 j9 k0 k1 k2 k3 g4 g5:Value) (g7 h:Nat) (f:World) (L:Obj),f.ownsRow (d+1) 217 5 (.slice (some ⟨g7,0,none⟩) (l.length+1) h) (l.length+1) (eY l++ [.string s0,.string s1,.slice (some ⟨g,0,none⟩) pl cap,.int .i64 xs,.bool xq])->(b.alloc L).drew.grownBy f (slice k a j).ownBlock->f.heap[d]? =some (.cells #[.slice k a j,.slice none 0 0,.slice none 0 0] 200 (0,0))->K ⟨#[.pointer (some ⟨d,0,none⟩),u1,u2,.pointer (some ⟨q,0,none⟩),u4,u5,u6,u7,u8,u9,s,.pointer (some ⟨be,0,none⟩),w,x,.int .i64 xs,.bool xq,y,z,A,B,C,D,E,F,G,H,I,J,M,N,O,Q,R,S,T,U,V,W,X,Y,Z,a0,a1,a2,a3,a4,a5,a6,a7,a8,a9,b0,b1,b2,b3,b4,b5,b6,b7,b8,b9,c0,c1,c2,c3,c4,c5,c6,c7,c8,c9,e0,e1,e2,e3,e4,e5,e6,e7,e8,e9,g0,g1,g2,g3,v85,j0,j1,j2,j3,j4,j5,j6,j7,j8,j9,k0,k1,k2,k3,g4,g5],[]⟩ (f.setCell ⟨d,0,none⟩ (.slice (some ⟨g7,0,none⟩) (l.length+1) h))):
  Code.wp prog (RJ Tryz.f63) (Exit.then K (bodyPost prog Tryz.f63 P)) ⟨#[.pointer (some ⟨d,0,none⟩),u1,u2,.pointer (some ⟨q,0,none⟩),u4,u5,u6,u7,u8,u9,s,.pointer (some ⟨be,0,none⟩),w,x,.int .i64 xs,.bool xq,y,z,A,B,C,D,E,F,G,H,I,J,M,N,O,Q,R,S,T,U,V,W,X,Y,Z,a0,a1,a2,a3,a4,a5,a6,a7,a8,a9,b0,b1,b2,b3,b4,b5,b6,b7,b8,b9,c0,c1,c2,c3,c4,c5,c6,c7,c8,c9,e0,e1,e2,e3,e4,e5,e6,e7,e8,e9,g0,g1,g2,g3,h3,h4,h5,h6,h8,h9,i1,i2,i3,i4,i5,i6,i7,i8,i9,t,v],[]⟩ b:=by
 conv=>arg 2;whnf
 have HK:Hid _:=hK;clear hK;have p:∀o:Obj,(b.alloc o).drew.ownsRow (d+1) 217 5 (.slice k a j) l.length (eY l):=λo=>World.ownsRow.drew (World.ownsRow.alloc i o);have g9:(slice k a j).ownBlock≠some d:=λe=>by have:=(i.lt _ e).1;omega
 have n:Hid _:=r;clear r i;obtain⟨i0,hi,h0,h1,h2⟩:=info_parts Tz
 go_region_law (refine step_append_lies _ rfl (.tmp 89) (.tmp 98) 197 rfl (d+1) 217 i0 _ 5 72 Tryz.underlying197 hi h0 h1 h2 rfl (by decide) (.slice k a j) l.length (eY l) (by simp[Act.eval]) (p _) ⟨b.heap.size,0,none⟩ 1 1 [.string s0,.string s1,.slice (some ⟨g,0,none⟩) pl cap,.int .i64 xs,.bool xq] (by simp[Act.eval]) rfl (World.news_of_block (bN b _)) (by intro u hu;simp only[List.mem_cons,List.not_mem_nil,or_false]at hu;rcases hu with rfl|rfl|rfl|rfl|rfl<;>rfl) (by decide) (by unfold maxLen;omega) (by omega) (by simp;omega) (b.heap.size+1) (by simp) ?_;intro g7 h f m c k5 k7;have kB:f.heap[d]? =_:=(c.block d (by simp;omega) g9.symm).trans ((Below.heap_alloc _ _ _ g8).trans n.out);have k6:=ai kB;obtain⟨r0,k8,_⟩:=QN kB)
 all_goals exact HK.out _ _ _ _ _ _ _ _ _ _ _ _ _ _ _ _ _ _ _ _ _ m c kB
end Go.Proofs.YtdifpeaklamhnaaGreatDoor
