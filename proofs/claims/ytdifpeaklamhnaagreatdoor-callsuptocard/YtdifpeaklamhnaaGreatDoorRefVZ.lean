import Derived.Test.YtdifpeaklamhnaaGreatDoorRefSZ
import Derived.Deep.AppendLies
set_option linter.unusedVariables false
set_option linter.unusedSimpArgs false
set_option maxRecDepth 100000
set_option maxHeartbeats 0
namespace Go.Proofs.YtdifpeaklamhnaaGreatDoor
open Go.Proofs.Tryz
open Go.RowKit
open World (setCell size_alloc news_of_block cell?)
open Value (int slice)
open List (append_assoc drop_drop append_nil length_drop)
open Below (heap_setCell heap_alloc refl)
open Nat (le_refl zero_le)
theorem ER:(Tryz.prog.info? 183).map (λi=>(i.zero,i.size,i.bytes))=some (some (.agg #[.string ⟨#[]⟩,.bool false,.slice none 0 0,.int .u8 0]),4,56):=by kernel_rfl
structure zZ(w w':World)(rb:Nat)(o:Option Nat):Prop where
 os:w'.os=w.os
 tape:w'.tape=w.tape
 output:w'.output=w.output
 size:w.heap.size<=w'.heap.size
 block:∀g,g<w.heap.size->g≠rb->o≠some g->w'.heap[g]? =w.heap[g]?
mutual
inductive Ad(w:World)(S:Nat->Prop)(cs:List Value):Nat->Nat->Tr->Prop
 |mk {lo i:Nat} {k:Int} {tx:Bs} {br:Bool} {ops:List Tr} {v:Value} {is:List Nat} :cs[4*i]? =some (.string (aa tx))->cs[4*i+1]? =some (.bool br)->cs[4*i+2]? =some v->cs[4*i+3]? =some (.int .u8 0)->
   w.ownsRow 0 3 1 v ops.length (is.map λj:Nat=>int .i64 (j:Int))->(∀g,v.ownBlock=some g->S g)->jl w S cs lo i is ops->(br=false->ops= []/\fU tx=true/\k=aQ tx)->tx.length<=maxLen->Ad w S cs lo i (.mk k tx br ops)
inductive jl(w:World)(S:Nat->Prop)(cs:List Value):Nat->Nat->List Nat->List Tr->Prop
 |nil {lo:Nat} :jl w S cs lo lo [] []
 |cons {lo i hi:Nat} {is:List Nat} {t:Tr} {ts:List Tr} :Ad w S cs lo i t->jl w S cs (i+1) hi is ts->jl w S cs lo hi (i::is) (t::ts)
end
theorem yg{cs a:List Value}{i:Nat}{v:Value}(h:cs[i]? =some v):(cs++a)[i]? =some v:=by
 rw[List.getElem?_append_left (List.getElem?_eq_some_iff.mp h).1];exact h
mutual
theorem Ad.move{w x:World}{S S':Nat->Prop}{cs:List Value}(j:List Value)(k:∀g,S g->x.heap[g]? =w.heap[g]?)(m:∀g,S g->S' g):∀ {lo i:Nat} {t:Tr},Ad w S cs lo i t->Ad x S' (cs++j) lo i t
 |_,_,_,.mk a b c c3 d e f l z=>.mk (yg a) (yg b) (yg c) (yg c3) (aA d λg h=>k g (e g h)) (λg h=>m g (e g h)) (jl.move j k m f) l z
theorem jl.move{w x:World}{S S':Nat->Prop}{cs:List Value}(c:List Value)(e:∀g,S g->x.heap[g]? =w.heap[g]?)(f:∀g,S g->S' g):∀ {lo d:Nat} {i:List Nat} {t:List Tr},jl w S cs lo d i t->jl x S' (cs++c) lo d i t
 |_,_,_,_,.nil=>.nil
 |_,_,_,_,.cons a b=>.cons (Ad.move c e f a) (jl.move c e f b)
end
mutual
theorem Ad.bounded{w:World}{S:Nat->Prop}{cs:List Value} :∀ {lo i:Nat} {t:Tr},Ad w S cs lo i t->Ad w (λg=>S g/\g<w.heap.size) cs lo i t
 |_,_,_,.mk a b c c3 d e f l z=>.mk a b c c3 d (λg h=>⟨e g h,(d.lt g h).2⟩) (jl.bounded f) l z
theorem jl.bounded{w:World}{S:Nat->Prop}{cs:List Value} :∀ {lo c:Nat} {i:List Nat} {t:List Tr},jl w S cs lo c i t->jl w (λg=>S g/\g<w.heap.size) cs lo c i t
 |_,_,_,_,.nil=>.nil
 |_,_,_,_,.cons a b=>.cons (Ad.bounded a) (jl.bounded b)
end
def DX(w:World)(rb:Nat)(s:ByteArray)(k:Nat)(v:Value)(n:Nat)(cs:List Value)(o:Option (Tr × Bs))(e:Ending)(w':World):Prop:=
 zZ w w' rb v.ownBlock/\((o=none/\e=.returned (.int .i64 (-1))/\∃k' ao m cap,dH w' rb s k' (.slice ao m cap))\/
  (∃t k' g cap n' ds,o=some (t,s.toList.drop k')/\k<k'/\k'<=s.size/\n<=n'/\n'+1+k<=n+k'/\e=.returned (.int .i64 (n':Int))/\
   dH w' rb s k' (.slice (some ⟨g,0,none⟩) (n'+1) cap)/\w'.ownsRow (rb+1) 183 4 (.slice (some ⟨g,0,none⟩) (n'+1) cap) (n'+1) (cs++ds)/\
   (v.ownBlock=some g\/w.heap.size<=g)/\Ad w' (λq=>w.heap.size<=q/\q≠g) (cs++ds) n n' t))
theorem FO{w h W p:World}{c I lo m d a:Nat}{v N v4:Value}{s:ByteArray}{cs ds:List Value}(J:Int){u:Bs}{z:Bool}{ops:List Tr}{is:List Nat}{x:Value}
  (L:c<w.heap.size) (F:zZ w h c v.ownBlock) (C:v4.ownBlock=v.ownBlock\/∃g,v4.ownBlock=some g/\w.heap.size<=g)
  (K:W.os=h.os/\W.tape=h.tape/\W.output=h.output/\h.heap.size<=W.heap.size/\∀g,g<h.heap.size->W.heap[g]? =h.heap[g]?)
  (D:h.ownsRow (c+1) 183 4 v4 m (cs++ds))
  (b:W.grownBy p v4.ownBlock) (t:p.ownsRow (c+1) 183 4 (.slice (some ⟨d,0,none⟩) (m+1) a) (m+1) (cs++ds++ [.string (aa u),.bool z,x,.int .u8 0]))
  (l:v4.ownBlock=some d\/d=h.heap.size+1) (M:p.heap[c]? =some (.cells #[.string s,.int .i64 (I:Int),N] 180 (0,0)))
  (r:h.ownsRow 0 3 1 x ops.length (is.map λj:Nat=>int .i64 (j:Int))) (n:∀g,x.ownBlock=some g->w.heap.size<=g/\v4.ownBlock≠some g)
  (B:jl h (λq=>w.heap.size<=q/\v4.ownBlock≠some q) (cs++ds) lo m is ops) (G:z=false->ops= []/\fU u=true/\J=aQ u) (H:u.length<=maxLen):
  zZ w (p.setCell ⟨c,2,none⟩ (.slice (some ⟨d,0,none⟩) (m+1) a)) c v.ownBlock/\
  dH (p.setCell ⟨c,2,none⟩ (.slice (some ⟨d,0,none⟩) (m+1) a)) c s I (.slice (some ⟨d,0,none⟩) (m+1) a)/\
  (p.setCell ⟨c,2,none⟩ (.slice (some ⟨d,0,none⟩) (m+1) a)).ownsRow (c+1) 183 4 (.slice (some ⟨d,0,none⟩) (m+1) a) (m+1) (cs++(ds++ [.string (aa u),.bool z,x,.int .u8 0]))/\
  (v.ownBlock=some d\/w.heap.size<=d)/\
  Ad (p.setCell ⟨c,2,none⟩ (.slice (some ⟨d,0,none⟩) (m+1) a)) (λq=>w.heap.size<=q/\q≠d) (cs++(ds++ [.string (aa u),.bool z,x,.int .u8 0])) lo m (.mk J u z ops):=by
 obtain⟨a1,a2,a3,a4,a5⟩:=K;have f:(cs++ds).length=4*m:=by have:=D.1;omega
 have ah:∀g,g<h.heap.size->g≠c->v4.ownBlock≠some g->(p.setCell ⟨c,2,none⟩ (.slice (some ⟨d,0,none⟩) (m+1) a)).heap[g]? =h.heap[g]? :=by
  intro g k y E;rw[heap_setCell _ _ _ _ y,b.block g (by omega) (λe=>E e.symm),a5 g k]
 have o:∀g,g<h.heap.size->v4.ownBlock≠some g->g≠d:=by
  intro g k y e;subst e;rcases l with e|e
  ·exact y e
  ·omega
 have hF:=F.size;refine⟨⟨b.os.trans (a1.trans F.os),b.tape.trans (a2.trans F.tape),b.output.trans (a3.trans F.output), ?_, ?_⟩, ?_, ?_, ?_, ?_⟩
 ·have:=b.size;simp[setCell];omega
 ·intro g k y E;rw[ah g (by omega) y ?_,F.block g k y E];rcases C with e|⟨q,e,hq⟩
  ·rw[e];exact E
  ·rw[e];intro A;have:=Option.some.inj A;omega
 ·unfold dH;simp[setCell,Array.getElem?_modify,M]
 ·rw[<-append_assoc];exact ownsRow_setCell_below t (by show c<c+1;omega) _
 ·rcases l with e|e
  ·rcases C with A|⟨q,A,hq⟩
   ·exact .inl (by rw[<-A];exact e)
   ·rw[A]at e;have:=Option.some.inj e;exact .inr (by omega)
  ·exact .inr (by omega)
 ·rw[<-append_assoc];refine .mk (v:=x) (is:=is) ?_ ?_ ?_ ?_ (aA r λg i=> ?_) (λg i=> ?_) (B.bounded.move _ (λg i=> ?_) (λg i=>⟨i.1.1,o g i.2 i.1.2⟩)) G H
  ·rw[List.getElem?_append_right (by omega),f];simp
  ·rw[List.getElem?_append_right (by omega),f,show 4*m+1- 4*m=1 by omega];rfl
  ·rw[List.getElem?_append_right (by omega),f,show 4*m+2- 4*m=2 by omega];rfl
  ·rw[List.getElem?_append_right (by omega),f,show 4*m+3- 4*m=3 by omega];rfl
  ·have k:=n g i;exact ah g (r.lt g i).2 (by omega) k.2
  ·have k:=n g i;exact⟨k.1,o g (r.lt g i).2 k.2⟩
  ·have k:=i.1.1;exact ah g i.2 (by omega) i.1.2
theorem mY{a b:World}{row:Option Nat}(h:a.drew.grownBy b row):a.grownBy b row:=⟨h.os,h.tape,h.output,h.size,h.block⟩
theorem zi{s:ByteArray}{k:Nat}(h:k<s.size):(s.toList.drop k).headD 0=s[k]:=(Gq s k h).2
theorem vg{x:World}{b:Nat}{a0 a1 a2 a3:Value}{T:TypeId}(h:x.heap[b]? =some (.cells #[a0,a1,a2,a3] T (0,0)))(v:Value):(x.setCell ⟨b,0,none⟩ v).heap[b]? =some (.cells #[v,a1,a2,a3] T (0,0)):=by
 simp[setCell,Array.getElem?_modify,h]
theorem gP{x:World}{b d:Nat}{o:Obj}(h:x.heap[b]? =some o)(a:b≠d)(c:Nat)(v:Value):(x.setCell ⟨d,c,none⟩ v).heap[b]? =some o:=by
 rw[heap_setCell _ _ _ _ a];exact h
theorem Pg(s:ByteArray)(hs:s.size<=400)(w:World)(b k C n:Nat)(j:Option Addr)(cap:Nat)(cs:List Value)(h:dH w b s k (.slice j n cap))(hk:k<=s.size)
  (f:w.ownsRow (b+1) 183 4 (.slice j n cap) n cs) (hn:n<=1000)
  (i:Nat) (E:k+kU (s.toList.drop k)=i) (M:i<s.size) (K:(s[i]==40)=false) (hb:aL s[i].toNat=false) (c:Bs) (N:c≠ []) (S:cB (s.toList.drop i)=c) (q:fU c=true) (G:c.length<=maxLen) (o:Option (Tr × Bs))
  (ho:o=some (Tr.mk (aQ c) c false [],lL ((s.toList.drop i).drop (bU (s.toList.drop i))))):
  Calls prog 58 #[.pointer (some ⟨b,0,none⟩),.int .i64 C] w λe w'=>DX w b s k (.slice j n cap) n cs o e w':=by
 obtain⟨i0,hi,U,V,W⟩:=info_parts ER;have HA:∀x:World,Calls prog 109 #[.string (aa c)] x λe w'=>e=.returned (.bool true)/\Below x.heap.size x w':=by
  intro x;have:=wY (aa c) x (by rw[aF];exact G);rw[aj,q]at this;exact this
 have I:Hid (fU c=true):=q;clear q;go_enter Tryz.func58,Tryz.ntmps58
 go_wp2_with(go_at_call 106;refine(jV s hs _ b k _ h hk).mono ?_;rintro e w2 ⟨rfl,hk1,hg1,hr1⟩)
 rw[E]at hr1;have a7:=hr1.lt;have m:w2.heap.size≠b:=by omega
 obtain⟨⟨y0,y1,y2⟩,f1,f2⟩:=eP hr1;have Z:((s[i].toNat:Int)==40)=false:=by rw[<-K];exact kZ s[i] 40 (by omega)
 go_region;have P:∀o:Obj,dH (w2.alloc o).drew b s i (.slice j n cap):=λo=>by unfold dH;exact dD hr1 _
 all_goals(try go_wp2_with(go_at_call 107;refine(tQ s hs _ b i _ (P _) M hb).mono ?_))
 rintro e w3 ⟨rfl,k',hk',hks,a,hr3⟩;have L:k<k':=by
  rw[hk'];have:0<bU (s.toList.drop i):=by unfold bU;omega
  omega
 have O:o=some (Tr.mk (aQ c) c false [],s.toList.drop k'):=by rw[ho,hk',lL,<-drop_drop,<-drop_drop]
 clear ho hk';rw[S];replace a:=mY a;have a1:=hr3.lt;have r:w3.heap[w2.heap.size]? =some (.cells #[.string ⟨#[]⟩,.bool false,.slice none 0 0,.int .u8 0] 183 (0,0)):=bY (bI w2 _) a m;have a5:=af r;obtain⟨⟨z0,z1,z2,z3⟩,g0,g1,g2,g3⟩:=bB r;have a6:(aa c).toList.isEmpty=false:=by rw[aj];cases c with|nil=>exact absurd rfl N|cons=>rfl
 go_wp2_with(go_at_call 109;refine(HA _).mono ?_;rintro e l ⟨rfl,hb4⟩;have F:=bX (vg r _) hb4;obtain⟨⟨u0,u1,u2,u3⟩,v0,v1,v2,v3⟩:=bB F;have y:=bX (gP hr3 m.symm 0 _) hb4)
 have a8:=hg1.size;have Q:=a.size;rw[size_alloc]at Q;have R:=hb4.size;have a4:w3.heap.size<=l.heap.size:=by simpa[setCell]using R
 have Y:∀g,g<w.heap.size->g≠b->l.heap[g]? =w.heap[g]? :=by
  intro g J H;rw[hb4.block g (by simp[setCell];omega),heap_setCell _ _ _ _ (by show g≠w2.heap.size;omega),a.block g (by simp;omega) (by simpa using H),heap_alloc _ _ _ (by omega),hg1.block g J (by simpa using H)]
 have p:l.ownsRow (b+1) 183 4 (.slice j n cap) n cs:=aA f λg z=>Y g (f.lt g z).2 (by have:=(f.lt g z).1;omega);have A:∀o:Obj,(l.drew.alloc o).ownsRow (b+1) 183 4 (.slice j n cap) n cs:=λo=>World.ownsRow.alloc (show l.drew.ownsRow _ _ _ _ _ _ from p) o;have a2:=af y;have T:(slice j n cap).ownBlock≠some b:=λe=>by have:=(f.lt _ e).1;omega
 obtain⟨⟨p0,p1,p2⟩,q1,q2⟩:=eP y
 go_region_law (refine step_append_lies _ rfl (.tmp 127) (.tmp 129) 100 rfl (b+1) 183 i0 _ 4 56 Tryz.underlying100 hi U V W rfl (by decide) (.slice j n cap) n cs (by simp[Act.eval]) (A _) ⟨l.heap.size,0,none⟩ 1 1 [.string (aa c),.bool false,.slice none 0 0,.int .u8 0] (by simp[Act.eval]) rfl (news_of_block (bI l.drew _)) (by intro u hu;simp at hu;rcases hu with rfl|rfl|rfl|rfl<;>rfl) (by decide) (by unfold maxLen;omega) (by omega) (by simp;omega) (l.heap.size+1) (by simp) ?_;intro g5 B w5 t d D a0;have X:w5.heap[b]? =_:=(d.block b (by simp;omega) T.symm).trans (dD y _);have a3:=af X;obtain⟨⟨r0,r1,r2⟩,t1,t2⟩:=eP X)
 all_goals(go_wp2_with fail;go_ret)
 all_goals
  have F4:zZ w l b (slice j n cap).ownBlock:=⟨hb4.os.trans (a.os.trans hg1.os),hb4.tape.trans (a.tape.trans hg1.tape),hb4.output.trans (a.output.trans hg1.output),by omega,λg J H _=>Y g J H⟩;obtain⟨A1,A2,A3,A4,A5⟩:=FO (aQ c) (ds:=[]) (v:=.slice j n cap) (is:=[]) (ops:=[]) h.lt F4 (.inl rfl) (by exact⟨rfl,rfl,rfl,by simp,λg z=>heap_alloc _ _ _ z⟩) (by rw[append_nil];exact p) d (by rw[append_nil];exact t) D X (World.ownsRow_nil _ _ _ _) (λg z=>by cases z) .nil (λ_=>⟨rfl,I.out,rfl⟩) G;exact⟨A1,.inr ⟨_,k',g5,B,n,_,O,L,hks,le_refl _,by omega,rfl,A2,A3,A4,A5⟩⟩
theorem Rv(s:ByteArray)(M:s.size<=400)(w:World)(j k q n:Nat)(p:Option Addr)(cap:Nat)(cs:List Value)(h:dH w j s k (.slice p n cap))(P:k<=s.size)
  (f:Nat) (u:k+kU (s.toList.drop k)=f) (D:f<s.size) (B:(s[f]==40)=false) (hb:aL s[f].toNat=false) (m:Bs) (H:cB (s.toList.drop f)=m) (t:fU m=false) (G:m.length<=maxLen):
  Calls prog 58 #[.pointer (some ⟨j,0,none⟩),.int .i64 q] w λe w'=>DX w j s k (.slice p n cap) n cs none e w':=by
 have J:∀x:World,Calls prog 109 #[.string (aa m)] x λe w'=>e=.returned (.bool false)/\Below x.heap.size x w':=by
  intro x;have:=wY (aa m) x (by rw[aF];exact G);rw[aj,t]at this;exact this
 clear t;go_enter Tryz.func58,Tryz.ntmps58
 go_wp2_with(go_at_call 106;refine(jV s M _ j k _ h P).mono ?_;rintro e w2 ⟨rfl,hk1,hg1,hr1⟩)
 rw[u]at hr1;have Q:=hr1.lt;have b:w2.heap.size≠j:=by omega
 obtain⟨⟨y0,y1,y2⟩,f1,f2⟩:=eP hr1;have K:((s[f].toNat:Int)==40)=false:=by rw[<-B];exact kZ s[f] 40 (by omega)
 have E:∀o:Obj,dH (w2.alloc o).drew j s f (.slice p n cap):=λo=>by unfold dH;exact dD hr1 _
 go_region;all_goals(try go_wp2_with(go_at_call 107;refine(tQ s M _ j f _ (E _) D hb).mono ?_))
 rintro e O ⟨rfl,k',hk',hks,d,hr3⟩;rw[H];replace d:=mY d;have L:=hr3.lt;have l:O.heap[w2.heap.size]? =some (.cells #[.string ⟨#[]⟩,.bool false,.slice none 0 0,.int .u8 0] 183 (0,0)):=bY (bI w2 _) d b;have N:=af l;obtain⟨⟨z0,z1,z2,z3⟩,R,g1,S,T⟩:=bB l;have I:w.grownBy O (some j):=aD (aO hg1 _) d;have y:=hg1.size
 cases i:m with
 |nil=>
  subst i;have C:(aa ([]:Bs)).toList.isEmpty=true:=by rw[aj];rfl
  go_wp2_with fail
  go_ret;have a:=cZ I y 0 (.string (aa []));exact⟨⟨a.os,a.tape,a.output,a.size,λg z A _=>a.block g z (by simpa using A)⟩,.inl ⟨rfl,rfl,k',p,n,cap,gP hr3 b.symm 0 _⟩⟩
 |cons c r=>
  have C:(aa (c::r)).toList.isEmpty=false:=by rw[aj];rfl
  rw[i]at J
  go_wp2_with(go_at_call 109;refine(J _).mono ?_;rintro e Z ⟨rfl,hb4⟩;have v:=bX (vg l _) hb4;obtain⟨⟨U,V,W,X⟩,v0,Y,v2,v3⟩:=bB v;have F:=bX (gP hr3 b.symm 0 _) hb4)
  go_ret;have a:=aD (cZ I y 0 (.string (aa (c::r)))) (bz hb4 _);exact⟨⟨a.os,a.tape,a.output,a.size,λg z A _=>a.block g z (by simpa using A)⟩,.inl ⟨rfl,rfl,k',p,n,cap,F⟩⟩
theorem zm(s:ByteArray)(B:s.size<=400)(w:World)(b k f n:Nat)(d:Option Addr)(cap:Nat)(cs:List Value)(h:dH w b s k (.slice d n cap))(z:k<=s.size)
  (a:Nat) (j:k+kU (s.toList.drop k)=a) (l:a=s.size\/∃p:a<s.size,aL s[a].toNat=true/\(s[a]==40)=false):
  Calls prog 58 #[.pointer (some ⟨b,0,none⟩),.int .i64 f] w λe w'=>DX w b s k (.slice d n cap) n cs none e w':=by
 have r:∀x:World,dH x b s a (.slice d n cap)->Calls prog 107 #[.pointer (some ⟨b,0,none⟩)] x λe w'=>e=.returned (.string ⟨#[]⟩)/\x=w':=by
  intro x D;refine(zS s x b a _ D ?_ ?_).mono λe w' h=>⟨h.1,h.2.symm⟩
  ·rcases l with h|⟨h,_⟩<;>omega
  ·rcases l with h|⟨h,i,_⟩
   ·exact .inl h
   ·exact .inr ⟨h,i⟩
 go_enter Tryz.func58,Tryz.ntmps58
 go_wp2_with(go_at_call 106;refine(jV s B _ b k _ h z).mono ?_;rintro e w2 ⟨rfl,hk1,hg1,hr1⟩)
 rw[j]at hr1;have A:=hr1.lt;have u:w2.heap.size≠b:=by omega
 obtain⟨⟨F,H,I⟩,f1,f2⟩:=eP hr1;have C:=hg1.size;have c:∀o:Obj,dH (w2.alloc o).drew b s a (.slice d n cap):=λo=>by unfold dH;exact dD hr1 _
 have q:∀o:Obj,w.grownBy (w2.alloc o).drew (some b):=λo=>dB (aO hg1 _);rcases l with l|⟨p,hbr,h40⟩
 ·have v:decide ((a:Int)<(s.size:Int))=false:=by simp;omega
  have y:decide (a<s.size)=false:=by simp;omega
  go_region;all_goals(try go_wp2_with(go_at_call 107;refine(r _ (c _)).mono ?_;rintro e E ⟨rfl,rfl⟩))
  go_ret;have G:=q (.cells #[.string ⟨#[]⟩,.bool false,.slice none 0 0,.int .u8 0] 183);exact⟨⟨G.os,G.tape,G.output,G.size,λg m i _=>G.block g m (by simpa using i)⟩,.inl ⟨rfl,rfl,a,d,n,cap,c _⟩⟩
 ·have t:((s[a].toNat:Int)==40)=false:=by rw[<-h40];exact kZ s[a] 40 (by omega)
  go_region;all_goals(try go_wp2_with(go_at_call 107;refine(r _ (c _)).mono ?_;rintro e E ⟨rfl,rfl⟩))
  go_ret;have G:=q (.cells #[.string ⟨#[]⟩,.bool false,.slice none 0 0,.int .u8 0] 183);exact⟨⟨G.os,G.tape,G.output,G.size,λg m i _=>G.block g m (by simpa using i)⟩,.inl ⟨rfl,rfl,a,d,n,cap,c _⟩⟩
theorem AX{x:World}{b:Nat}{a0 a1 a2 a3:Value}{T:TypeId}(h:x.heap[b]? =some (.cells #[a0,a1,a2,a3] T (0,0)))(v:Value):(x.setCell ⟨b,1,none⟩ v).heap[b]? =some (.cells #[a0,v,a2,a3] T (0,0)):=by
 simp[setCell,Array.getElem?_modify,h]
theorem Jj(l:Bs):kU l<=l.length:=by unfold kU;exact Qc l qp
theorem Jq(s:ByteArray)(m:s.size<=400)(k:Nat)(j:k<=s.size):∃f c,jW (s.toList.drop k)=(f,s.toList.drop c)/\k<=c/\c<=s.size/\(f≠ []->k<c)/\f.length<=maxLen/\
  ∀(w:World) (b:Nat) (v:Value),dH w b s k v->Calls prog 107 #[.pointer (some ⟨b,0,none⟩)] w λe w'=>e=.returned (.string (aa f))/\w.grownBy w' (some b)/\dH w' b s c v:=by
 by_cases d:k=s.size\/∃a:k<s.size,aL s[k].toNat=true
 ·refine⟨[],k, ?_,le_refl _,j,λh=>absurd rfl h,by simp,λw b v h=>(zS s w b k v h j d).mono ?_⟩
  ·unfold jW;rw[if_pos];rcases d with h|⟨h,hb⟩
   ·left;rw[length_drop,ai];omega
   ·right;rw[zi h];exact hb
  ·rintro e w' ⟨rfl,rfl⟩;exact⟨rfl,fw _ _,h⟩
 ·have a:k<s.size:=by
   rcases Nat.lt_or_ge k s.size with h|h
   ·exact h
   ·exact absurd (.inl (by omega)) d
  have hb:aL s[k].toNat=false:=by
   rw[Bool.eq_false_iff];exact λe=>d (.inr ⟨a,e⟩)
  have g:=GR (s.toList.drop k) (by rw[length_drop,ai];omega);have l:0<bU (s.toList.drop k):=by unfold bU;omega
  rw[length_drop,ai]at g;have i:=Jj (s.toList.drop (k+bU (s.toList.drop k)));rw[length_drop,ai]at i;refine⟨cB (s.toList.drop k),k+bU (s.toList.drop k)+kU (s.toList.drop (k+bU (s.toList.drop k))), ?_,by omega,by omega,λ_=>by omega, ?_,λw b v h=>(tQ s m w b k v h a hb).mono ?_⟩
  ·unfold jW;rw[if_neg,lL,<-drop_drop,<-drop_drop];rintro(h|h)
   ·rw[length_drop,ai]at h;omega
   ·rw[zi a,hb]at h;cases h
  ·unfold cB;split
   ·rw[List.length_take,length_drop,ai];unfold maxLen;omega
   ·simp
  ·rintro e w' ⟨rfl,k',rfl,_,hg,hr⟩;exact⟨rfl,hg,hr⟩
theorem FN(s:ByteArray)(G:s.size<=400)(w:World)(a k c n:Nat)(y:Option Addr)(cap:Nat)(cs:List Value)(h:dH w a s k (.slice y n cap))(P:k<=s.size)
  (d:Nat) (m:k+kU (s.toList.drop k)=d) (Q:d<s.size) (z:(s[d]==40)=true) (H:Nat) (p:d+1+kU (s.toList.drop (d+1))=H) (j:Bs) (I:Nat)
  (M:∀(w:World) (a:Nat) (v:Value),dH w a s H v->Calls prog 107 #[.pointer (some ⟨a,0,none⟩)] w λe w'=>e=.returned (.string (aa j))/\w.grownBy w' (some a)/\dH w' a s I v)
  (D:j.length<=maxLen) (i:oM j=false\/20<=c):
  Calls prog 58 #[.pointer (some ⟨a,0,none⟩),.int .i64 c] w λe w'=>DX w a s k (.slice y n cap) n cs none e w':=by
 have E:∀x:World,Calls prog 108 #[.string (aa j)] x λe w'=>e=.returned (.bool (oM j))/\Below x.heap.size x w':=by
  intro x;have:=wZ (aa j) x (by rw[aF];exact D);rw[aj]at this;exact this
 obtain⟨q,A⟩:∃q,q=oM j:=⟨_,rfl⟩;have B:q=false\/20<=c:=by rw[A];exact i
 rw[<-A]at E;clear i A;go_enter Tryz.func58,Tryz.ntmps58
 go_wp2_with(go_at_call 106;refine(jV s G _ a k _ h P).mono ?_;rintro e w2 ⟨rfl,hk1,hg1,hr1⟩)
 rw[m]at hr1;have R:=hr1.lt;have b:w2.heap.size≠a:=by omega
 obtain⟨⟨y0,y1,y2⟩,f1,f2⟩:=eP hr1;have F:((s[d].toNat:Int)==40)=true:=by rw[<-z];exact kZ s[d] 40 (by omega)
 have u:=hg1.size;have C:∀o:Obj,dH ((w2.setCell ⟨a,1,none⟩ (.int .i64 ((d:Int)+1))).alloc o).drew a s (d+1) (.slice y n cap):=λo=>by unfold dH;exact dD hr1.inc _
 go_region
 go_wp2_with(first
  |(go_at_call 106;refine(jV s G _ a (d+1) _ (C _) (by omega)).mono ?_;rintro e J ⟨rfl,hk2,f,hr3⟩;replace f:=mY f;rw[p]at hr3;have r:J.heap[w2.heap.size]? =some (.cells #[.string ⟨#[]⟩,.bool false,.slice none 0 0,.int .u8 0] 183 (0,0)):=bY (by simpa[setCell]using bI (w2.setCell ⟨a,1,none⟩ (.int .i64 ((d:Int)+1))) (.cells #[.string ⟨#[]⟩,.bool false,.slice none 0 0,.int .u8 0] 183)) f b;obtain⟨⟨z0,z1,z2,z3⟩,S,g1,T,U⟩:=bB r)
  |(go_at_call 107;refine(M _ a _ (gP hr3 b.symm 1 _)).mono ?_;rintro e w4 ⟨rfl,hg4,hr4⟩;have t:=bY (AX r _) hg4 b;obtain⟨⟨V,W,X,Y⟩,v0,Z,v2,v3⟩:=bB t)
  |(go_at_call 108;refine(E _).mono ?_;rintro e w5 ⟨rfl,hb5⟩))
 all_goals first
  |(exfalso;rcases B with e|e;exact absurd ‹q=true› (by rw[e];decide);omega)
  |(go_ret
    have K:w.grownBy J (some a):=aD (aO (aD hg1 (ek _ _ _ _)) _) f;have L:=aD (cZ K u 1 (.bool true)) hg4;have l:=aD (cZ L u 0 (.string (aa j))) (bz hb5 _);exact⟨⟨l.os,l.tape,l.output,l.size,λg N O _=>l.block g N (by simpa using O)⟩,.inl ⟨rfl,rfl,I,y,n,cap,bX (gP hr4 b.symm 0 _) hb5⟩⟩)
theorem zZ.trans{w wr i:World}{rb:Nat}{o b:Option Nat}(h:zZ w wr rb o)(a:zZ wr i rb b)(k:b=o\/∃g,b=some g/\w.heap.size<=g):zZ w i rb o:=by
 refine⟨a.os.trans h.os,a.tape.trans h.tape,a.output.trans h.output,Nat.le_trans h.size a.size,λg c d f=> ?_⟩;rw[a.block g (Nat.lt_of_lt_of_le c h.size) d ?_,h.block g c d f];rcases k with e|⟨q,e,hq⟩
 ·rw[e];exact f
 ·rw[e];intro j;have:=Option.some.inj j;omega
theorem zZ.mY{w w':World}{a:Nat}{o:Option Nat}(h:zZ w.drew w' a o):zZ w w' a o:=⟨h.os,h.tape,h.output,h.size,h.block⟩
theorem zZ.Rq{w w':World}{a:Nat}(h:w.grownBy w' (some a))(o:Option Nat):zZ w w' a o:=⟨h.os,h.tape,h.output,h.size,λg b c _=>h.block g b (by simpa using c)⟩
theorem KY{x:World}{b:Nat}{a0 a1 a2 a3:Value}{T:TypeId}(h:x.heap[b]? =some (.cells #[a0,a1,a2,a3] T (0,0)))(v:Value):(x.setCell ⟨b,2,none⟩ v).heap[b]? =some (.cells #[a0,a1,v,a3] T (0,0)):=by
 simp[setCell,Array.getElem?_modify,h]
theorem jl.snoc{w:World}{S:Nat->Prop}{cs:List Value}{is:List Nat}{c:List Tr}{lo m i:Nat}{x:Tr}(h:jl w S cs lo m is c)(k:Ad w S cs m i x):jl w S cs lo (i+1) (is++ [i]) (c++ [x]):=by
 induction c generalizing is lo with
 |nil=>cases h;exact .cons k .nil
 |cons y d ih=>cases h with|cons a b=>exact .cons a (ih b)
theorem Pk{w wr B w7:World}{o:Obj}{p b n m u Z f l i a:Nat}{v A y:Value}{s:ByteArray}{cs G r:List Value}{tx:Bs}{k:List Tr}{is:List Nat}{x:Tr}
  (a1:p<w.heap.size) (a0:w.heap.size<=b) (X:b<wr.heap.size) (hF:zZ w wr p v.ownBlock) (P:A.ownBlock=v.ownBlock\/∃g,A.ownBlock=some g/\w.heap.size<=g) (Q:A.ownBlock≠some b)
  (V:wr.ownsRow (b+1) 3 1 y k.length (is.map λj:Nat=>int .i64 (j:Int))) (Y:∀g,y.ownBlock=some g->A.ownBlock≠some g) (W:wr.ownsRow (p+1) 183 4 A m (cs++G))
  (O:jl wr (λq=>b<q/\A.ownBlock≠some q/\y.ownBlock≠some q) (cs++G) n m is k)
  (U:wr.heap[b]? =some (.cells #[.string (aa tx),.bool true,y,.int .u8 0] 183 (0,0)))
  (D:zZ wr B p A.ownBlock) (M:dH B p s Z (.slice (some ⟨f,0,none⟩) (u+1) l)) (C:B.ownsRow (p+1) 183 4 (.slice (some ⟨f,0,none⟩) (u+1) l) (u+1) (cs++G++r))
  (z:A.ownBlock=some f\/wr.heap.size<=f) (F:Ad B (λq=>wr.heap.size<=q/\q≠f) (cs++G++r) m u x)
  (c:(B.alloc o).grownBy w7 y.ownBlock) (E:w7.ownsRow (b+1) 3 1 (.slice (some ⟨i,0,none⟩) (k.length+1) a) (k.length+1) ((is.map λj:Nat=>int .i64 (j:Int))++ [.int .i64 (u:Int)]))
  (t:y.ownBlock=some i\/i=B.heap.size+1):
  dH (w7.setCell ⟨b,2,none⟩ (.slice (some ⟨i,0,none⟩) (k.length+1) a)) p s Z (.slice (some ⟨f,0,none⟩) (u+1) l)/\
  zZ w (w7.setCell ⟨b,2,none⟩ (.slice (some ⟨i,0,none⟩) (k.length+1) a)) p v.ownBlock/\
  (w7.setCell ⟨b,2,none⟩ (.slice (some ⟨i,0,none⟩) (k.length+1) a)).ownsRow (p+1) 183 4 (.slice (some ⟨f,0,none⟩) (u+1) l) (u+1) (cs++(G++r))/\
  (some f=v.ownBlock\/∃g,some f=some g/\w.heap.size<=g)/\some f≠some b/\
  (w7.setCell ⟨b,2,none⟩ (.slice (some ⟨i,0,none⟩) (k.length+1) a)).heap[b]? =some (.cells #[.string (aa tx),.bool true,.slice (some ⟨i,0,none⟩) (k.length+1) a,.int .u8 0] 183 (0,0))/\
  (w7.setCell ⟨b,2,none⟩ (.slice (some ⟨i,0,none⟩) (k.length+1) a)).ownsRow (b+1) 3 1 (.slice (some ⟨i,0,none⟩) (k.length+1) a) (k++ [x]).length ((is++ [u]).map λj:Nat=>int .i64 (j:Int))/\
  (∀g,some i=some g->some f≠some g)/\
  jl (w7.setCell ⟨b,2,none⟩ (.slice (some ⟨i,0,none⟩) (k.length+1) a)) (λq=>b<q/\some f≠some q/\some i≠some q) (cs++(G++r)) n (u+1) (is++ [u]) (k++ [x]):=by
 have s6:=D.size;have sF:=hF.size;have I:∀g,y.ownBlock=some g->b<g/\g<wr.heap.size:=λg N=>by have:=V.lt g N;omega
 have hL:∀g,A.ownBlock=some g->p<g/\g<wr.heap.size:=λg N=>by have:=W.lt g N;omega
 have L:f<B.heap.size:=(C.lt f rfl).2;have ah:∀g,g<B.heap.size->g≠b->y.ownBlock≠some g->(w7.setCell ⟨b,2,none⟩ (.slice (some ⟨i,0,none⟩) (k.length+1) a)).heap[g]? =B.heap[g]? :=by
  intro g H R T;rw[heap_setCell _ _ _ _ R,c.block g (by simp;omega) (λe=>T e.symm),heap_alloc _ _ _ H]
 have J:y.ownBlock≠some f:=by
  intro e;rcases z with d|d
  ·exact Y f e d
  ·have:=I f e;omega
 have K:f≠b:=by
  intro e;rcases z with d|d
  ·exact Q (by rw[d,e])
  ·omega
 have S:f≠i:=by
  intro e;rcases t with d|d
  ·exact J (by rw[d,e])
  ·omega
 refine⟨?_, ?_, ?_, ?_,(λe=>K (Option.some.inj e)), ?_, ?_,(λg e d=>S (by rw[Option.some.inj e,Option.some.inj d])), ?_⟩
 ·unfold dH;rw[ah p (af M) (by omega) (λe=>by have:=I p e;omega)];exact M
 ·refine⟨c.os.trans (D.os.trans hF.os),c.tape.trans (D.tape.trans hF.tape),c.output.trans (D.output.trans hF.output), ?_,λg H R T=> ?_⟩
  ·have:=c.size;simp[setCell]at this ⊢;omega
  ·rw[ah g (by omega) (by omega) (λe=>by have:=I g e;omega),(hF.trans D P).block g H R T]
 ·rw[<-append_assoc];exact aA C λg N=>by
   have:f=g:=Option.some.inj N;subst this;exact ah f L K J
 ·rcases z with e|e
  ·rcases P with d|⟨q,d,h⟩
   ·exact .inl (by rw[<-d,e])
   ·exact .inr ⟨f,rfl,by rw[e]at d;have:=Option.some.inj d;omega⟩
  ·exact .inr ⟨f,rfl,by omega⟩
 ·refine KY (a2:=y) ?_ _;rw[c.block b (by simp;omega) (λe=>by have:=I b e.symm;omega),heap_alloc _ _ _ (by omega),D.block b X (by omega) Q];exact U
 ·rw[List.map_append,List.length_append];exact ownsRow_setCell_below E (by show b<b+1;omega) _
 ·rw[<-append_assoc];refine jl.snoc (m:=m) ?_ ?_
  ·refine O.bounded.move r (λq h=> ?_) (λq h=>⟨h.1.1, ?_, ?_⟩)
   ·have H:=h.1.1;rw[ah q (by have:=h.2;omega) (by omega) h.1.2.2,D.block q h.2 (by omega) h.1.2.1]
   ·intro e;have e:=Option.some.inj e;subst e;rcases z with d|d
    ·exact h.1.2.1 d
    ·have:=h.2;omega
   ·intro e;have e:=Option.some.inj e;subst e;rcases t with d|d
    ·exact h.1.2.2 d
    ·have:=h.2;omega
  ·have:=F.bounded.move (x:=w7.setCell ⟨b,2,none⟩ (.slice (some ⟨i,0,none⟩) (k.length+1) a)) (S':=λq=>b<q/\some f≠some q/\some i≠some q) [] (λq h=> ?_) (λq h=>⟨by have:=h.1.1;omega,λe=>h.1.2 (Option.some.inj e).symm,λe=> ?_⟩)
   ·rwa[append_nil]at this
   ·have H:=h.1.1;exact ah q h.2 (by omega) (λe=>by have:=I q e;omega)
   ·have e:=Option.some.inj e;subst e;have H:=h.1.1;have R:=h.2;rcases t with d|d
    ·have:=I i d;omega
    ·omega
def FP(g d:Nat)(o:Option (Tr × Bs)):Option (List Tr × Bs):=
 match o with
 |none=>none
 |some (x,r)=>(nX g d r).map (λp=>(x::p.1,p.2))
theorem QU:(Tryz.prog.info? 3).map (λi=>(i.zero,i.size,i.bytes))=some (some (.int .i64 0),1,8):=by kernel_rfl
def JE(s:ByteArray)(f:Nat):Prop:=∀(w:World) (rb k deep n:Nat) (ao:Option Addr) (cap:Nat) (cs:List Value),dH w rb s k (.slice ao n cap)->k<=s.size->2*(s.size- k)<=f->deep<=20->
 w.ownsRow (rb+1) 183 4 (.slice ao n cap) n cs->n<=k->
  Calls prog 58 #[.pointer (some ⟨rb,0,none⟩),.int .i64 deep] w λe w'=>DX w rb s k (.slice ao n cap) n cs (uF f deep (s.toList.drop k)) e w'
def Nr(w:World)(rb Nb:Nat)(s:ByteArray)(k n k3 f d:Nat)(v:Value)(cs:List Value)(tx:Bs)(gk:Nat)(wr:World):Prop:=
 ∃(f' kk m:Nat) (xs:List Tr) (is:List Nat) (aoL:Option Addr) (capL:Nat) (ds:List Value) (aoA:Option Addr) (nA capA:Nat),
  gk=s.size- kk/\f'<=f/\kk<=s.size/\2*(s.size- kk)+1<=f'/\k+1<=kk/\n<=m/\m+k+1<=n+kk/\xs.length<=kk/\
  Hid (nX f d (s.toList.drop k3)=(nX f' d (s.toList.drop kk)).map (λp=>(xs++p.1,p.2)))/\
  dH wr rb s kk (.slice aoL m capL)/\zZ w wr rb v.ownBlock/\wr.ownsRow (rb+1) 183 4 (.slice aoL m capL) m (cs++ds)/\
  ((slice aoL m capL).ownBlock=v.ownBlock\/∃g,(slice aoL m capL).ownBlock=some g/\w.heap.size<=g)/\(slice aoL m capL).ownBlock≠some Nb/\
  wr.heap[Nb]? =some (.cells #[.string (aa tx),.bool true,.slice aoA nA capA,.int .u8 0] 183 (0,0))/\
  wr.ownsRow (Nb+1) 3 1 (.slice aoA nA capA) xs.length (is.map λj:Nat=>int .i64 (j:Int))/\(∀g,(slice aoA nA capA).ownBlock=some g->(slice aoL m capL).ownBlock≠some g)/\
  jl wr (λq=>Nb<q/\(slice aoL m capL).ownBlock≠some q/\(slice aoA nA capA).ownBlock≠some q) (cs++ds) n m is xs
theorem Ph(s:ByteArray)(hs:s.size<=400)(f:Nat)(IH:∀f',f'<f->JE s f')(w:World)(c k a n:Nat)(O:Option Addr)(cap:Nat)(cs:List Value)(h:dH w c s k (.slice O n cap))(hk:k<=s.size)
  (I:w.ownsRow (c+1) 183 4 (.slice O n cap) n cs) (j3:n<=k)
  (X:Nat) (b6:k+kU (s.toList.drop k)=X) (j0:X<s.size) (c9:(s[X]==40)=true) (k2:Nat) (b7:X+1+kU (s.toList.drop (X+1))=k2) (N:Bs) (F:Nat) (h6:k2<F) (e7:F<=s.size)
  (HT:∀(w:World) (c:Nat) (v:Value),dH w c s k2 v->Calls prog 107 #[.pointer (some ⟨c,0,none⟩)] w λe w'=>e=.returned (.string (aa N))/\w.grownBy w' (some c)/\dH w' c s F v)
  (c5:N.length<=maxLen) (hh:oM N=true) (e2:a<20) (hf:2*(s.size- F)+1<=f):
  Calls prog 58 #[.pointer (some ⟨c,0,none⟩),.int .i64 a] w λe w'=>DX w c s k (.slice O n cap) n cs ((nX f (a+1) (s.toList.drop F)).map (λp=>(Tr.mk (aQ N) N true p.1,lL (p.2.drop 1)))) e w':=by
 have HA:∀x:World,Calls prog 108 #[.string (aa N)] x λe w'=>e=.returned (.bool true)/\Below x.heap.size x w':=by
  intro x;have:=wZ (aa N) x (by rw[aF];exact c5);rw[aj,hh]at this;exact this
 clear hh;go_enter Tryz.func58,Tryz.ntmps58
 go_wp2_with(go_at_call 106;refine(jV s hs _ c k _ h hk).mono ?_;rintro e w2 ⟨rfl,hk1,hg1,hr1⟩)
 rw[b6]at hr1;have j5:=hr1.lt;have r:w2.heap.size≠c:=by omega
 obtain⟨⟨y0,y1,y2⟩,f1,f2⟩:=eP hr1;have h5:((s[X].toNat:Int)==40)=true:=by rw[<-c9];exact kZ s[X] 40 (by omega)
 have c2:=hg1.size;have c0:∀o:Obj,dH ((w2.setCell ⟨c,1,none⟩ (.int .i64 ((X:Int)+1))).alloc o).drew c s (X+1) (.slice O n cap):=λo=>by unfold dH;exact dD hr1.inc _
 have i7:decide ((20:Int)<=(a:Int))=false:=by simp;omega
 go_region
 go_wp2_with(first
  |(go_at_call 106;refine(jV s hs _ c (X+1) _ (c0 _) (by omega)).mono ?_;rintro e w3 ⟨rfl,hk2,S,hr3⟩;replace S:=mY S;rw[b7]at hr3;have a8:w3.heap[w2.heap.size]? =some (.cells #[.string ⟨#[]⟩,.bool false,.slice none 0 0,.int .u8 0] 183 (0,0)):=bY (by simpa[setCell]using bI (w2.setCell ⟨c,1,none⟩ (.int .i64 ((X:Int)+1))) (.cells #[.string ⟨#[]⟩,.bool false,.slice none 0 0,.int .u8 0] 183)) S r;obtain⟨⟨z0,z1,z2,z3⟩,g0,g1,g2,g3⟩:=bB a8)
  |(go_at_call 107;refine(HT _ c _ (gP hr3 r.symm 1 _)).mono ?_;rintro e w4 ⟨rfl,hg4,hr4⟩;have T:=bY (AX a8 _) hg4 r;obtain⟨⟨u0,u1,u2,u3⟩,v0,v1,v2,v3⟩:=bB T)
  |(go_at_call 108;refine(HA _).mono ?_;rintro e w5 ⟨rfl,hb5⟩))
 have G3:w.grownBy w3 (some c):=aD (aO (aD hg1 (ek _ _ _ _)) _) S;have G4:=aD (cZ G3 c2 1 (.bool true)) hg4;have G5:w.grownBy w5 (some c):=aD (cZ G4 c2 0 (.string (aa N))) (bz hb5 _);have c1:dH w5 c s F (.slice O n cap):=bX (gP hr4 r.symm 0 _) hb5;have U:=bX (vg T (.string (aa N))) hb5;clear S hr3 a8 z0 z1 z2 z3 g0 g1 g2 g3 hg4 hr4 T u0 u1 u2 u3 v0 v1 v2 v3 hb5 G3 G4 y0 y1 y2 f1 f2 HA HT c0;obtain⟨K,b4⟩:∃K,K=w2.heap.size:=⟨_,rfl⟩;rw[<-b4]at U r ⊢;have W:w5.ownsRow (c+1) 183 4 (.slice O n cap) n (cs++ []):=by
  rw[append_nil];exact aA I λg hg=>G5.block g (I.lt g hg).2 (by have:=(I.lt g hg).1;simp;omega)
 have I0:Nr w c K s k n F f (a+1) (.slice O n cap) cs N (s.size- F) w5:=
  ⟨f,F,n,[],[],O,cap,[],none,0,0,rfl,le_refl _,e7,hf,by omega,le_refl _,by omega,zero_le _,by rw[Hid];simp,c1,⟨G5.os,G5.tape,G5.output,G5.size,λg h1 h2 _=>G5.block g h1 (by simpa using h2)⟩,W,.inl rfl,(λe=>by have:=(I.lt _ e).2;omega),U,World.ownsRow_nil _ _ _ _,(λg hg=>by cases hg),.nil⟩
 have e0:w.heap.size<=K:=by omega
 have a4:=h.lt;clear W U c1 G5 b4;go_loopg [7] (s.size- F) (λgk _ wr=>Nr w c K s k n F f (a+1) (.slice O n cap) cs N gk wr)
 case atStart=>exact I0
 case round=>
  clear I0;obtain⟨f',l,m,xs,is,t,d,ds,a7,nA,Q,e3,i8,e8,i9,h8,e9,j1,j6,HO,hR,hF,L,a2,c6,D,z,a1,J⟩:=hrel;subst e3;obtain⟨g,rfl⟩:∃g,f'=g+1:=⟨f'- 1,by omega⟩;have i5:=hF.size;have c3:=af D;have i4:=hR.lt;obtain⟨⟨y0,y1,y2⟩,f1,f2⟩:=eP hR;obtain⟨⟨z0,z1,z2,z3⟩,g0,g1,g2,g3⟩:=bB D;by_cases b8:l<s.size
  ·cases Z:(s[l]==41)with
   |true=>
    have b3:((s[l].toNat:Int)==41)=true:=by rw[<-Z];exact kZ s[l] 41 (by omega)
    have e1:decide ((s.size:Int)<=(l:Int))=false:=by simp;omega
    obtain⟨k5,a3⟩:∃k5,l+1+kU (s.toList.drop (l+1))=k5:=⟨_,rfl⟩;have HE:Hid (nX f (a+1) (s.toList.drop F)=some (xs,s.toList.drop l)):=by
     rw[Hid,HO.out,nX,if_neg (by rw[length_drop,ai];omega),zi b8,Z,if_pos rfl];simp
    have HD:Hid (lL ((s.toList.drop l).drop 1)=s.toList.drop k5):=by
     have e:(s.toList.drop l).drop 1=s.toList.drop (l+1):=by rw[drop_drop]
     rw[Hid,e,lL,drop_drop,a3]
    clear HO;have a0:dH (wr.setCell ⟨c,1,none⟩ (.int .i64 ((l:Int)+1))).drew.drew c s (l+1) (.slice t m d):=hR.inc;obtain⟨i0,hi,g9,h0,h3⟩:=info_parts ER
    go_wp2_with fail
    go_region;all_goals(try go_wp2_with fail)
    go_region;all_goals(try go_wp2_with(go_at_call 106;refine(jV s hs _ c (l+1) _ a0 (by omega)).mono ?_;rintro e E ⟨rfl,hk5,y,M⟩))
    rw[a3]at M hk5;replace y:wr.grownBy E (some c):=aD (ek wr c 1 (.int .i64 ((l:Int)+1))) (mY (mY y));have g5:=y.size;have A:=bY D y r;have i2:=M.lt;have c4:=af A;have a5:E.ownsRow (c+1) 183 4 (.slice t m d) m (cs++ds):=aA L λq C=>y.block q (L.lt q C).2 (by have:=(L.lt q C).1;simp;omega);have a9:∀o:Obj,(E.drew.alloc o).ownsRow (c+1) 183 4 (.slice t m d) m (cs++ds):=λo=>World.ownsRow.alloc (show E.drew.ownsRow _ _ _ _ _ _ from a5) o;have g8:(slice t m d).ownBlock≠some c:=λe=>by have:=(L.lt _ e).1;omega
    clear y0 y1 y2 f1 f2 z0 z1 z2 z3 g0 g1 g2 g3 a0;obtain⟨⟨p0,p1,p2⟩,q1,q2⟩:=eP M;obtain⟨⟨x0,x1,x2,x3⟩,_,_,_,_⟩:=bB A
    go_region_law (refine step_append_lies _ rfl (.tmp 127) (.tmp 129) 100 rfl (c+1) 183 i0 _ 4 56 Tryz.underlying100 hi g9 h0 h3 rfl (by decide) (.slice t m d) m (cs++ds) (by simp[Act.eval]) (a9 _) ⟨E.heap.size,0,none⟩ 1 1 [.string (aa N),.bool true,.slice a7 nA Q,.int .u8 0] (by simp[Act.eval]) rfl (news_of_block (bI E.drew _)) (by intro u hu;simp at hu;rcases hu with rfl|rfl|rfl|rfl<;>rfl) (by decide) (by unfold maxLen;omega) (by omega) (by simp;omega) (E.heap.size+1) (by simp) ?_;intro g7 P w7 H i R b9;have kR:w7.heap[c]? =_:=(i.block c (by simp;omega) g8.symm).trans (dD M _);have i3:=af kR;obtain⟨⟨r0,r1,r2⟩,t1,t2⟩:=eP kR)
    all_goals(go_wp2_with fail;go_ret)
    all_goals
     have F6:zZ w E c (slice O n cap).ownBlock:=hF.trans (zZ.Rq y _) a2;have V:E.ownsRow 0 3 1 (.slice a7 nA Q) xs.length (is.map λj:Nat=>int .i64 (j:Int)):=kL (b:=K+1) (aA z λq C=>y.block q (z.lt q C).2 (by have:=(z.lt q C).1;simp;omega)) (λ_ _=>zero_le _);have B:jl E (λq=>w.heap.size<=q/\(slice t m d).ownBlock≠some q) (cs++ds) n m is xs:=by
      have:=J.bounded.move (x:=E) (S':=λq=>w.heap.size<=q/\(slice t m d).ownBlock≠some q) [] (λq C=>y.block q C.2 (by have:=C.1.1;simp;omega)) (λq C=>⟨by have:=C.1.1;omega,C.1.2.1⟩)
      rwa[append_nil]at this
     obtain⟨A1,A2,A3,A4,A5⟩:=FO (aQ N) (v:=.slice O n cap) a4 F6 a2 (by exact⟨rfl,rfl,rfl,by simp,λg hg=>heap_alloc _ _ _ hg⟩) a5 i H R kR V (λq C=>⟨by have:=(z.lt q C).1;omega,a1 q C⟩) B (λh=>by cases h) c5;exact⟨A1,.inr ⟨_,k5,g7,P,m,_,by rw[HE.out,Option.map_some,HD.out],by omega,hk5,e9,by omega,rfl,A2,A3,A4,A5⟩⟩
   |false=>
    have b3:((s[l].toNat:Int)==41)=false:=by rw[<-Z];exact kZ s[l] 41 (by omega)
    have Y:Hid (nX f (a+1) (s.toList.drop F)=(FP g (a+1) (uF g (a+1) (s.toList.drop l))).map (λp=>(xs++p.1,p.2))):=by
     rw[Hid,HO.out,nX,if_neg (by rw[length_drop,ai];omega),zi b8,Z,if_neg Bool.false_ne_true];rfl
    clear HO;have HC:Calls prog 58 #[.pointer (some ⟨c,0,none⟩),.int .i64 ((a:Int)+1)] wr.drew λe w'=>DX wr.drew c s l (.slice t m d) m (cs++ds) (uF g (a+1) (s.toList.drop l)) e w':=
     IH g (by omega) wr.drew c l (a+1) m t d (cs++ds) hR e8 (by omega) (by omega) L (by omega)
    obtain⟨i1,hj,e4,e5,e6⟩:=info_parts QU
    go_wp2_with fail
    go_region
    go_wp2_with(go_at_call 58;refine HC.mono ?_)
    rintro e E ⟨G,hres⟩;replace G:=G.mY;have g5:=G.size;have A:E.heap[K]? =_:=(G.block K c3 r c6).trans D;have c4:=af A;obtain⟨⟨x0,x1,x2,x3⟩,t0,t1,t2,t3⟩:=bB A;rcases hres with⟨ho,rfl,k9,c7,n9,b2,a0⟩|⟨x,k',g6,b1,n',c8,ho,h7,b5,j4,h9,rfl,M,g4,y,B⟩
    ·have HE:Hid (nX f (a+1) (s.toList.drop F)=none):=by rw[Hid,Y.out,ho];rfl
     clear Y
     go_wp2_with fail
     go_ret;exact⟨hF.trans G a2,.inl ⟨by rw[HE.out];rfl,rfl,k9,c7,n9,b2,a0⟩⟩
    ·have HE:Hid (nX f (a+1) (s.toList.drop F)=(nX g (a+1) (s.toList.drop k')).map (λp=>((xs++ [x])++p.1,p.2))):=by rw[Hid,Y.out,ho,FP];cases nX g (a+1) (s.toList.drop k')<;>simp
     clear Y;have j2:decide ((n':Int)<0)=false:=by simp
     have V:E.ownsRow (K+1) 3 1 (.slice a7 nA Q) xs.length (is.map λj:Nat=>int .i64 (j:Int)):=aA z λq C=>G.block q (z.lt q C).2 (by have:=(z.lt q C).1;omega) (a1 q C);have j7:xs.length<=400:=by omega
     have b0:Hid _:=J;have a6:Hid _:=B;clear J B
     go_wp2_with(at_builtin;refine wpList_append_lies _ rfl (.tmp 85) (.tmp 87) 42 rfl (K+1) 3 i1 (.int .i64 0) 1 8 Tryz.underlying42 hj e4 e5 e6 rfl (by decide) _ _ _ rfl (V.alloc _) ⟨E.heap.size,0,none⟩ 1 1 [.int .i64 (n':Int)] rfl rfl (news_of_block (bI E _)) ?d2 ?d3 ?d4 ?d5 ?d6 (E.heap.size+1) ?d7 ?_)
     case d2=>intro u hu;simp at hu;subst hu;rfl
     case d3=>decide
     case d4=>unfold maxLen;omega
     case d5=>omega
     case d6=>simp;omega
     case d7=>simp
     intro g7 P w7 H i R b9;obtain⟨B1,B2,B3,B4,B5,B6,B7,B8,B9⟩:=Pk a4 e0 c3 hF a2 c6 z a1 L b0.out D G M g4 y a6.out i H R;have h4:w7.heap[K]? =_:=(i.block K (by simp;omega) (λe=>by have:=(z.lt K e.symm).1;omega)).trans (dD A _);obtain⟨⟨l0,l1,l2,l3⟩,m0,m1,m2,m3⟩:=bB h4
     go_wp2_with fail
     go_roundg (s.size- k')
     case measure=>omega
     case rel=>exact⟨g,k',n'+1,xs++ [x],is++ [n'],_,b1,ds++c8,_,_,P,rfl,by omega,b5,by omega,by omega,by omega,by omega,by simp;omega,HE,B1,B2,B3,B4,B5,B6,B7,B8,B9⟩
  ·have i6:decide ((l:Int)<(s.size:Int))=false:=by simp;omega
   have e1:decide ((s.size:Int)<=(l:Int))=true:=by simp;omega
   have HE:Hid (nX f (a+1) (s.toList.drop F)=none):=by
    rw[Hid,HO.out,List.drop_of_length_le (by rw[ai];omega),nX];rfl
   clear HO J z a1
   go_wp2_with fail
   go_region;all_goals(try go_wp2_with fail)
   go_region;all_goals(try go_wp2_with fail)
   go_ret;exact⟨⟨hF.os,hF.tape,hF.output,hF.size,hF.block⟩,.inl ⟨by rw[HE.out];rfl,rfl,l,t,m,d,hR⟩⟩
theorem Ru(s:ByteArray)(p:s.size<=400)(f:Nat):JE s f:=by
 induction f using Nat.strongRecOn with
 |ind f ih=>
  intro w x k b n q cap cs h t N M o C;obtain⟨a,c⟩:∃a,k+kU (s.toList.drop k)=a:=⟨_,rfl⟩;have K:a<=s.size:=by have:=Jj (s.toList.drop k);rw[length_drop,ai]at this;omega
  have G:lL (s.toList.drop k)=s.toList.drop a:=by rw[lL,drop_drop,c]
  cases f with
  |zero=>
   rw[uF];exact zm s p w x k b n q cap cs h t a c (.inl (by omega))
  |succ f=>
   rw[uF,G];by_cases d:a<s.size
   ·rw[zi d]
    cases i:(s[a]==40)with
    |true=>
     rw[if_pos rfl];obtain⟨v,j⟩:∃v,a+1+kU (s.toList.drop (a+1))=v:=⟨_,rfl⟩;have B:v<=s.size:=by have:=Jj (s.toList.drop (a+1));rw[length_drop,ai]at this;omega
     have H:lL ((s.toList.drop a).drop 1)=s.toList.drop v:=by
      have e:(s.toList.drop a).drop 1=s.toList.drop (a+1):=by rw[drop_drop]
      rw[e,lL,drop_drop,j]
     rw[H];obtain⟨g,E,z,L,hb,J,l,D⟩:=Jq s p v B;rw[z];simp only
     cases y:(oM g&&decide (b<20))with
     |true=>
      rw[if_pos rfl];rw[Bool.and_eq_true,decide_eq_true_eq]at y;have u:g≠ []:=by intro e;subst e;have:=y.1;cases this
      have A:=J u;exact Ph s p f (λI h=>ih I (by omega)) w x k b n q cap cs h t o C a c d i v j g E A hb D l y.1 y.2 (by omega)
     |false=>
      rw[if_neg Bool.false_ne_true];refine FN s p w x k b n q cap cs h t a c d i v j g E D l ?_;rw[Bool.and_eq_false_iff,decide_eq_false_iff_not]at y;rcases y with h|h
      ·exact .inl h
      ·exact .inr (by omega)
    |false=>
     rw[if_neg Bool.false_ne_true]
     cases hb:aL s[a].toNat with
     |true=>
      have z:jW (s.toList.drop a)=([],s.toList.drop a):=by unfold jW;rw[if_pos];right;rw[zi d];exact hb
      rw[z];exact zm s p w x k b n q cap cs h t a c (.inr ⟨d,hb,i⟩)
     |false=>
      have z:jW (s.toList.drop a)=(cB (s.toList.drop a),lL ((s.toList.drop a).drop (bU (s.toList.drop a)))):=by
       unfold jW;rw[if_neg];rintro(h|h)
       ·rw[length_drop,ai]at h;omega
       ·rw[zi d,hb]at h;cases h
      rw[z];simp only;obtain⟨g,m⟩:∃g,cB (s.toList.drop a)=g:=⟨_,rfl⟩;have l:g.length<=maxLen:=by
       rw[<-m];unfold cB;split
       ·rw[List.length_take,length_drop,ai];unfold maxLen;omega
       ·simp
      rw[m]
      cases r:fU g with
      |true=>
       have u:g≠ []:=by intro e;subst e;cases r
       rw[if_pos rfl];exact Pg s p w x k b n q cap cs h t o (by omega) a c d i hb g u m r l _ rfl
      |false=>
       rw[if_neg Bool.false_ne_true];exact Rv s p w x k b n q cap cs h t a c d i hb g m r l
   ·have F:s.toList.drop a= []:=List.drop_of_length_le (by rw[ai];omega);rw[F];exact zm s p w x k b n q cap cs h t a c (.inl (by omega))
def KI(w:World)(o:Option Tr)(e:Ending)(w':World):Prop:=Below w.heap.size w w'/\
 ((o=none/\∃ao m cap,e=.returned (.tuple #[.agg #[.slice ao m cap],.bool false]))\/
  (∃g cap n cs t,o=some t/\n<=400/\e=.returned (.tuple #[.agg #[.slice (some ⟨g,0,none⟩) (n+1) cap],.bool true])/\
   w'.ownsRow w.heap.size 183 4 (.slice (some ⟨g,0,none⟩) (n+1) cap) (n+1) cs/\Ad w' (λ_=>True) cs 0 n t))
def wu(o:Option (Tr × Bs)):Option Tr:=match o with|some (t,[])=>some t|_=>none
theorem IZ(l:Bs):IY l=wu (uF (2*l.length+1) 0 l):=rfl
theorem AV{w w':World}{o b:Obj}(F:zZ ((w.alloc o).alloc b) w' (w.heap.size+1) none)(v:Value):Below w.heap.size w (w'.setCell ⟨w.heap.size,0,none⟩ v):=by
 have h:=F.size;simp only[size_alloc]at h
 suffices hB:Below w.heap.size w w' from hB.setCell (le_refl _) _
 refine⟨F.os,F.tape,F.output,by omega,λg a=> ?_⟩;rw[F.block g (by simp only[size_alloc];omega) (by omega) (by intro h;cases h),heap_alloc _ _ _ (by simp only[size_alloc];omega),heap_alloc _ _ _ a]
theorem uN{w w':World}{o a:Obj}(F:zZ ((w.alloc o).alloc a) w' (w.heap.size+1) none):w'.heap[w.heap.size]? =some o:=by
 rw[F.block _ (by simp only[size_alloc];omega) (by omega) (by intro h;cases h),heap_alloc _ _ _ (by simp only[size_alloc];omega)];exact heap_alloc_new w o
theorem mO{x:World}{b:Nat}{a0:Value}{T:TypeId}(h:x.heap[b]? =some (.cells #[a0] T (0,0))):x.cell? ⟨b,0,none⟩=some a0/\x.frozen? ⟨b,0,none⟩=false:=by
 simp[cell?,World.frozen?,h]
theorem rE{x:World}{b:Nat}{a0 v:Value}{T:TypeId}(h:x.heap[b]? =some (.cells #[a0] T (0,0))):(x.setCell ⟨b,0,none⟩ v).cell? ⟨b,0,none⟩=some v:=by
 simp[cell?,setCell,Array.getElem?_modify,h]
theorem Ho{t:Tr}{s:ByteArray}{k:Nat}(a:k=s.size):wu (some (t,s.toList.drop k))=some t:=by
 have e:s.toList.drop k= []:=List.drop_of_length_le (by rw[ai];omega);rw[e];rfl
theorem Hm{t:Tr}{s:ByteArray}{k:Nat}(a:k<s.size):wu (some (t,s.toList.drop k))=none:=by
 rw[drop_cons s k a];rfl
theorem zI(s:ByteArray)(w:World)(G:s.size<=400)(o:Option (Tr × Bs))
  (r:∀(w:World) (p:Nat),dH w p s 0 (.slice none 0 0)->Calls prog 58 #[.pointer (some ⟨p,0,none⟩),.int .i64 0] w λe w'=>DX w p s 0 (.slice none 0 0) 0 [] o e w'):
  Calls prog 22 #[.string s] w λe w'=>KI w (wu o) e w':=by
 have E:decide ((s.size:Int)<=400)=true:=by simp;omega
 have c:dH ((w.alloc (.cells #[.slice none 0 0] 102)).alloc (.cells #[.string s,.int .i64 0,.slice none 0 0] 180)) (w.heap.size+1) s 0 (.slice none 0 0):=by
  have:=bI (w.alloc (.cells #[.slice none 0 0] 102)) (.cells #[.string s,.int .i64 0,.slice none 0 0] 180);rw[size_alloc]at this;exact this
 go_enter Tryz.func22,Tryz.ntmps22
 go_wp2_with(go_at_call 58;refine(r _ _ c).mono ?_)
 clear r;rintro e w2 ⟨F,⟨rfl,rfl,f,ao,m,cap,hr⟩|⟨t,f,g,cap,a,ds,rfl,hk0,hk,hn0,hn,rfl,hr,hown,hg,hrep⟩⟩
 ·obtain⟨⟨A,B,C⟩,f1,f2⟩:=eP hr;obtain⟨z0,u⟩:=mO (uN F);have d:Hid (Below w.heap.size w (w2.setCell ⟨w.heap.size,0,none⟩ (.slice ao m cap))):=AV F _;have i:=rE (uN F) (v:=.slice ao m cap);clear c F
  go_wp2_with fail
  go_region
  go_wp2_with fail
  exact bodyPost_ret (v:=.tuple #[.agg #[.slice ao m cap],.bool false]) (by simp[results,Tryz.results22,go_sem,i]) rfl ⟨d.out.drew,.inl ⟨rfl,_,_,_,rfl⟩⟩
 ·obtain⟨⟨A,B,C⟩,f1,f2⟩:=eP hr;obtain⟨z0,u⟩:=mO (uN F);have d:Hid (Below w.heap.size w (w2.setCell ⟨w.heap.size,0,none⟩ (.slice (some ⟨g,0,none⟩) (a+1) cap))):=AV F _;have i:=rE (uN F) (v:=.slice (some ⟨g,0,none⟩) (a+1) cap);have z:decide ((0:Int)<=(a:Int))=true:=by simp
  by_cases b:f=s.size
  ·have j:Hid (KI w (wu (some (t,s.toList.drop f))) (.returned (.tuple #[.agg #[.slice (some ⟨g,0,none⟩) (a+1) cap],.bool true])) (w2.setCell ⟨w.heap.size,0,none⟩ (.slice (some ⟨g,0,none⟩) (a+1) cap)).drew):=by
    rw[Hid,Ho b];have n:=F.size;simp only[size_alloc]at n;have y:w.heap.size+2<=g:=by
     rcases hg with h|h
     ·cases h
     ·simpa only[size_alloc]using h
    refine⟨d.out.drew,.inr ⟨g,cap,a,[]++ds,t,rfl,by omega,rfl, ?_, ?_⟩⟩
    ·exact kL (ownsRow_setCell_below hown (by show w.heap.size<w.heap.size+1+1;omega) _) λq l=>by have:g=q:=Option.some.inj l;omega
    ·have:=hrep.move (x:=(w2.setCell ⟨w.heap.size,0,none⟩ (.slice (some ⟨g,0,none⟩) (a+1) cap)).drew) (S':=λ_=>True) [] (λq l=>heap_setCell _ _ _ _ (by have:=l.1;simp only[size_alloc]at this;show q≠w.heap.size;omega)) (λ_ _=>trivial)
     rwa[append_nil]at this
   have k:((f:Int)==(s.size:Int))=true:=by rw[b];simp
   clear c F hown hrep d hg b
   go_wp2_with fail
   go_region;all_goals(try go_wp2_with fail)
   all_goals exact bodyPost_ret (v:=.tuple #[.agg #[.slice (some ⟨g,0,none⟩) (a+1) cap],.bool true]) (by simp[results,Tryz.results22,go_sem,i]) rfl j.out
  ·have j:Hid (KI w (wu (some (t,s.toList.drop f))) (.returned (.tuple #[.agg #[.slice (some ⟨g,0,none⟩) (a+1) cap],.bool false])) (w2.setCell ⟨w.heap.size,0,none⟩ (.slice (some ⟨g,0,none⟩) (a+1) cap)).drew):=by
    rw[Hid,Hm (by omega)];exact⟨d.out.drew,.inl ⟨rfl,_,_,_,rfl⟩⟩
   have k:((f:Int)==(s.size:Int))=false:=by simp;omega
   clear c F hown hrep d hg b
   go_wp2_with fail
   go_region;all_goals(try go_wp2_with fail)
   all_goals exact bodyPost_ret (v:=.tuple #[.agg #[.slice (some ⟨g,0,none⟩) (a+1) cap],.bool false]) (by simp[results,Tryz.results22,go_sem,i]) rfl j.out
theorem OQ(w:World)(o a:Obj):zZ ((w.alloc o).alloc a) ((w.alloc o).alloc a) (w.heap.size+1) none:=⟨rfl,rfl,rfl,le_refl _,λ_ _ _ _=>rfl⟩
theorem Aw(s:ByteArray)(w:World)(d:400<s.size):
  Calls prog 22 #[.string s] w λe w'=>KI w none e w':=by
 have f:decide ((s.size:Int)<=400)=false:=by simp;omega
 obtain⟨w2,b⟩:∃w2,w2=(w.alloc (.cells #[.slice none 0 0] 102)).alloc (.cells #[.string s,.int .i64 0,.slice none 0 0] 180):=⟨_,rfl⟩;have F:=OQ w (.cells #[.slice none 0 0] 102) (.cells #[.string s,.int .i64 0,.slice none 0 0] 180);have a:dH ((w.alloc (.cells #[.slice none 0 0] 102)).alloc (.cells #[.string s,.int .i64 0,.slice none 0 0] 180)) (w.heap.size+1) s 0 (.slice none 0 0):=by
  have:=bI (w.alloc (.cells #[.slice none 0 0] 102)) (.cells #[.string s,.int .i64 0,.slice none 0 0] 180);rw[size_alloc]at this;exact this
 obtain⟨⟨g,h,i⟩,f1,f2⟩:=eP a;obtain⟨z0,c⟩:=mO (uN F);clear a F;go_enter Tryz.func22,Tryz.ntmps22
 go_wp2_with fail
 go_region;all_goals(try go_wp2_with fail)
 all_goals exact bodyPost_ret (v:=.tuple #[.agg #[.slice none 0 0],.bool false]) (by simp[results,Tryz.results22,go_sem]) rfl ⟨(((refl _ w).alloc (le_refl _) _).alloc (by simp[size_alloc]) _).drew,.inl ⟨rfl,_,_,_,rfl⟩⟩
theorem Dj(s:ByteArray)(w:World):Calls prog 22 #[.string s] w λe w'=>KI w (jw s.toList) e w':=by
 by_cases h:s.size<=400
 ·rw[<-PD _ (by rw[ai];exact h),IZ];refine zI s w h _ λw b a=> ?_;have:=Ru s h (2*s.toList.length+1) w b 0 0 0 none 0 [] a (zero_le _) (by rw[ai];omega) (by omega) ⟨rfl,.inl ⟨rfl,rfl⟩⟩ (le_refl _);exact this
 ·have e:jw s.toList=none:=by unfold jw;rw[if_pos (by rw[ai];omega)]
  rw[e];exact Aw s w (by omega)
end Go.Proofs.YtdifpeaklamhnaaGreatDoor
