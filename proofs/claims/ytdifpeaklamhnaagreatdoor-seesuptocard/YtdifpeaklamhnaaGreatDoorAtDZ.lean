import Derived.Test.YtdifpeaklamhnaaGreatDoorTaG
import Derived.Test.YtdifpeaklamhnaaGreatDoorBaDZ
import Derived.Deep.RegionHeld2
set_option linter.unusedVariables false
set_option linter.unusedSimpArgs false
set_option maxRecDepth 100000
set_option maxHeartbeats 0
namespace Go.Proofs.YtdifpeaklamhnaaGreatDoor
open Go.Proofs.Tryz
open Go.RowKit
open World (size_alloc size_drew setCell)
open Below (heap_setCell refl)
open Bool (and_eq_true)
def oW(ts:List (aJ × Ex))(l:Bs):Int:=fU (dH ts l).isNone 2
def rU(a0 a1 a2 a3 a4 a5 a6 a7 a8 a9 a10 a11 a12 a13 a14 a15 a16:Value):Prop:=a0.oneCell'=true/\a1.oneCell'=true/\a2.oneCell'=true/\a3.oneCell'=true/\a4.oneCell'=true/\a5.oneCell'=true/\a6.oneCell'=true/\a7.oneCell'=true/\a8.oneCell'=true/\a9.oneCell'=true/\a10.oneCell'=true/\a11.oneCell'=true/\a12.oneCell'=true/\a13.oneCell'=true/\a14.oneCell'=true/\a15.oneCell'=true/\a16.oneCell'=true
theorem BM(w:World)(q:List Nat)(p:List (aJ × Ex))(x:Option Addr)(m v:Nat)(a:Option Addr)(o n:Nat)(h:jm w q (.slice a o n) p)(l:Bs):
  Calls prog 76 #[.agg #[.slice x m v,.slice a o n],.string (aa l)] w λe w'=>Below w.heap.size w w'/\∃a0 a1 a2 a3 a4 a5 s t u a9 b c d f g j k,rU a0 a1 a2 a3 a4 a5 s t u a9 b c d f g j k/\e=.returned (.tuple #[.agg #[a0,a1,a2,a3,a4,a5,s,t,u,a9,b,c,d,f,g,j,k],.int .i64 (oW p l)]):=by
 refine(rW w q p x m v a o n h l).mono ?_;rintro e w' ⟨hb,⟨ho,rfl⟩|⟨i,te,r,ho,_,rfl,_⟩⟩
 ·exact⟨hb,_,_,_,_,_,_,_,_,_,_,_,_,_,_,_,_,_,⟨rfl,rfl,rfl,rfl,rfl,rfl,rfl,rfl,rfl,rfl,rfl,rfl,rfl,rfl,rfl,rfl,rfl⟩,by rw[oW,ho];rfl⟩
 ·exact⟨hb,_,_,_,_,_,_,_,_,_,_,_,_,_,_,_,_,_,⟨rfl,rfl,rfl,rfl,rfl,rfl,rfl,rfl,rfl,rfl,rfl,rfl,rfl,rfl,rfl,rfl,rfl⟩,by rw[oW,ho];rfl⟩
theorem UQ{W w2:World}{Z:Obj}{n:Nat}(hb:Below (W.alloc Z).drew.heap.size (W.alloc Z).drew w2)(a:W.heap.size=n):w2.heap[n]? =some Z:=by
 subst a;exact(hb.block W.heap.size (by simp[size_alloc])).trans (heap_alloc_new W _)
theorem eP{P:Program}{x:World}{b j:Nat}{a:Array Value}{T:TypeId}{v:Value}(h:x.heap[b]? =some (.cells a T (0,0)))(g:j<a.size)(i:v.oneCell'=true):∃c:World,(store ⟨b,j,none⟩ v).run P x=.ok () c/\c.heap[b]? =some (.cells (a.set! j v) T (0,0))/\∀(B:Nat) (y:World),B<=b->Below B y x->Below B y c:=by
 obtain⟨d,e⟩:=bK (P:=P) h g i;exact⟨_,d,e,λB y f hb=>hb.setCell (p:=⟨b,j,none⟩) f _⟩
theorem MS{P:Program}{x:World}{b:Nat}(m0:x.heap[b]? =some (.cells #[.string ⟨#[]⟩,.slice none 0 0,.slice none 0 0,.int .i64 0,.string ⟨#[]⟩,.slice none 0 0,.int .i64 0,.int .i64 0,.int .i64 0,.bool false,.int .i64 0,.int .i64 0,.string ⟨#[]⟩,.int .i64 0,.string ⟨#[]⟩,.pointer none,.slice none 0 0] 235))(a0 a1 a2 a3 a4 a5 a6 a7 a8 a9 m n o p q r s:Value)(o0:a0.oneCell'=true)(o1:a1.oneCell'=true)(o2:a2.oneCell'=true)(o3:a3.oneCell'=true)(o4:a4.oneCell'=true)(o5:a5.oneCell'=true)(o6:a6.oneCell'=true)(o7:a7.oneCell'=true)(o8:a8.oneCell'=true)(o9:a9.oneCell'=true)(U:m.oneCell'=true)(V:n.oneCell'=true)(W:o.oneCell'=true)(X:p.oneCell'=true)(Y:q.oneCell'=true)(Z:r.oneCell'=true)(c0:s.oneCell'=true):
  ∃t u v w z A C D E c d e f g i k l:World,(store ⟨b,0,none⟩ a0).run P x=.ok () t/\(store ⟨b,1,none⟩ a1).run P t=.ok () u/\(store ⟨b,2,none⟩ a2).run P u=.ok () v/\(store ⟨b,3,none⟩ a3).run P v=.ok () w/\(store ⟨b,4,none⟩ a4).run P w=.ok () z/\(store ⟨b,5,none⟩ a5).run P z=.ok () A/\(store ⟨b,6,none⟩ a6).run P A=.ok () C/\(store ⟨b,7,none⟩ a7).run P C=.ok () D/\(store ⟨b,8,none⟩ a8).run P D=.ok () E/\(store ⟨b,9,none⟩ a9).run P E=.ok () c/\(store ⟨b,10,none⟩ m).run P c=.ok () d/\(store ⟨b,11,none⟩ n).run P d=.ok () e/\(store ⟨b,12,none⟩ o).run P e=.ok () f/\(store ⟨b,13,none⟩ p).run P f=.ok () g/\(store ⟨b,14,none⟩ q).run P g=.ok () i/\(store ⟨b,15,none⟩ r).run P i=.ok () k/\(store ⟨b,16,none⟩ s).run P k=.ok () l/\∀(B:Nat) (y:World),B<=b->Below B y x->Below B y l:=by
 obtain⟨t,r0,m1,b0⟩:=eP (P:=P) (j:=0) m0 (by simp) o0;obtain⟨u,r1,m2,b1⟩:=eP (P:=P) (j:=1) m1 (by simp) o1;obtain⟨v,r2,m3,b2⟩:=eP (P:=P) (j:=2) m2 (by simp) o2;obtain⟨w,r3,m4,b3⟩:=eP (P:=P) (j:=3) m3 (by simp) o3;obtain⟨z,r4,m5,b4⟩:=eP (P:=P) (j:=4) m4 (by simp) o4;obtain⟨A,r5,m6,b5⟩:=eP (P:=P) (j:=5) m5 (by simp) o5;obtain⟨C,r6,m7,b6⟩:=eP (P:=P) (j:=6) m6 (by simp) o6;obtain⟨D,r7,m8,b7⟩:=eP (P:=P) (j:=7) m7 (by simp) o7;obtain⟨E,r8,m9,b8⟩:=eP (P:=P) (j:=8) m8 (by simp) o8;obtain⟨c,r9,M,b9⟩:=eP (P:=P) (j:=9) m9 (by simp) o9;obtain⟨d,c1,N,F⟩:=eP (P:=P) (j:=10) M (by simp) U;obtain⟨e,c2,O,G⟩:=eP (P:=P) (j:=11) N (by simp) V;obtain⟨f,c3,Q,H⟩:=eP (P:=P) (j:=12) O (by simp) W;obtain⟨g,c4,R,I⟩:=eP (P:=P) (j:=13) Q (by simp) X;obtain⟨i,c5,S,J⟩:=eP (P:=P) (j:=14) R (by simp) Y;obtain⟨k,c6,T,K⟩:=eP (P:=P) (j:=15) S (by simp) Z;obtain⟨l,c7,m17,L⟩:=eP (P:=P) (j:=16) T (by simp) c0;exact⟨t,u,v,w,z,A,C,D,E,c,d,e,f,g,i,k,l,r0,r1,r2,r3,r4,r5,r6,r7,r8,r9,c1,c2,c3,c4,c5,c6,c7,λB y a h=>L B y a (K B y a (J B y a (I B y a (H B y a (G B y a (F B y a (b9 B y a (b8 B y a (b7 B y a (b6 B y a (b5 B y a (b4 B y a (b3 B y a (b2 B y a (b1 B y a (b0 B y a (h)))))))))))))))))⟩
theorem gZ:∀(cs a:List dL),bT a cs=true->∀c∈cs,jX c=true
 | [],_,_,c,hc=>by simp at hc
 |d::r,a,h,c,hc=>by
  rw[bT,and_eq_true,and_eq_true]at h;rcases List.mem_cons.mp hc with rfl|hc
  ·exact h.1.1
  ·exact gZ r _ h.2 c hc
theorem sS{t:aJ}(h:bJ t=true):bG t.ax=true:=by
 unfold bJ at h;simp only[and_eq_true]at h;exact h.1.1.1
theorem Qr{l:Bs}(h:aU l=true):l.length<=12:=by
 unfold aU at h;simp only[and_eq_true,decide_eq_true_eq]at h;exact h.1.1.2
theorem sM{cs:List dL}(h:bG cs=true):cs.length<=1000/\∀c∈cs,c.1.length<=1000:=by
 unfold bG at h;rw[and_eq_true,Bool.not_eq_true',Bool.or_eq_false_iff,decide_eq_false_iff_not,decide_eq_false_iff_not]at h;refine⟨by omega,λc a=> ?_⟩;have:=gZ cs [] h.2 c a;unfold jX at this;simp only[and_eq_true]at this;have:=Qr this.1.1.1;omega
theorem SY{W w2 c:World}{Z:Obj}(a:Below (W.alloc Z).drew.heap.size (W.alloc Z).drew w2)(b:Below w2.heap.size w2 c):c.heap[W.heap.size]? =some Z/\W.heap.size<w2.heap.size:=by
 have d:=a.size;have e:W.heap.size+1<=w2.heap.size:=by simpa[size_alloc]using d
 exact⟨(b.block _ (by omega)).trans ((a.block W.heap.size (by simp[size_alloc])).trans (heap_alloc_new W _)),by omega⟩
theorem Ta{w2 b:World}{Z:Obj}(a:Below (w2.alloc Z).heap.size (w2.alloc Z) b):b.heap[w2.heap.size]? =some Z:=(a.block w2.heap.size (by simp[size_alloc])).trans (heap_alloc_new w2 _)
theorem Ol{b x:World}{d:List Nat}{c:List Value}{y:Ex}{B lo:Nat}(h:dJ b d (λg=>lo<=g) c y)(f:∀g,lo<=g->g<b.heap.size->x.heap[g]? =b.heap[g]?)(e:B<=lo):dJ x d (λg=>B<=g) c y:=
 h.bounded.move (λg a=>f g a.1 a.2) (λg a=>by have:=a.1;omega)
theorem aZ{P:Program}{x:World}{b:Nat}(j:Nat){c:Array Value}(a:Array Value){T:TypeId}{v:Value}(h:x.heap[b]? =some (.cells c T (0,0)))(m:j<c.size)(n:v.oneCell'=true)(k:c.set! j v=a):∃d:World,(store ⟨b,j,none⟩ v).run P x=.ok () d/\d.heap[b]? =some (.cells a T (0,0))/\(∀g,g≠b->d.heap[g]? =x.heap[g]?)/\∀(B:Nat) (y:World),B<=b->Below B y x->Below B y d:=by
 obtain⟨e,f⟩:=bK (P:=P) h m n;subst k;exact⟨_,e,f,λg l=>heap_setCell _ _ _ _ l,λB y i hb=>hb.setCell (p:=⟨b,j,none⟩) i _⟩
theorem qU{P:Program}{x:World}{b:Nat}(m0:x.heap[b]? =some EJ)(a0 a1 a2 a3 a4 a5 i j k a9 e:Value)(X:a0.oneCell'=true)(Y:a1.oneCell'=true)(Z:a2.oneCell'=true)(o3:a3.oneCell'=true)(o4:a4.oneCell'=true)(o5:a5.oneCell'=true)(o6:i.oneCell'=true)(o7:j.oneCell'=true)(o8:k.oneCell'=true)(o9:a9.oneCell'=true)(A:e.oneCell'=true):
  ∃l m n o p q r s t f a:World,(store ⟨b,0,none⟩ a0).run P x=.ok () l/\(store ⟨b,1,none⟩ a1).run P l=.ok () m/\(store ⟨b,2,none⟩ a2).run P m=.ok () n/\(store ⟨b,3,none⟩ a3).run P n=.ok () o/\(store ⟨b,4,none⟩ a4).run P o=.ok () p/\(store ⟨b,5,none⟩ a5).run P p=.ok () q/\(store ⟨b,6,none⟩ i).run P q=.ok () r/\(store ⟨b,7,none⟩ j).run P r=.ok () s/\(store ⟨b,8,none⟩ k).run P s=.ok () t/\(store ⟨b,9,none⟩ a9).run P t=.ok () f/\(store ⟨b,10,none⟩ e).run P f=.ok () a/\a.heap[b]? =some (.cells #[a0,a1,a2,a3,a4,a5,i,j,k,a9,e] 210 (0,0))/\(∀g,g≠b->a.heap[g]? =x.heap[g]?)/\∀(B:Nat) (y:World),B<=b->Below B y x->Below B y a:=by
 obtain⟨l,r0,m1,H,b0⟩:=aZ (P:=P) 0 #[a0,.int .i64 0,.int .i64 0,.bool false,.int .i64 0,.int .i64 0,.string ⟨#[]⟩,.int .i64 0,.string ⟨#[]⟩,.pointer none,.slice none 0 0] m0 (by simp) X rfl;obtain⟨m,r1,m2,I,b1⟩:=aZ (P:=P) 1 #[a0,a1,.int .i64 0,.bool false,.int .i64 0,.int .i64 0,.string ⟨#[]⟩,.int .i64 0,.string ⟨#[]⟩,.pointer none,.slice none 0 0] m1 (by simp) Y rfl;obtain⟨n,r2,m3,J,b2⟩:=aZ (P:=P) 2 #[a0,a1,a2,.bool false,.int .i64 0,.int .i64 0,.string ⟨#[]⟩,.int .i64 0,.string ⟨#[]⟩,.pointer none,.slice none 0 0] m2 (by simp) Z rfl;obtain⟨o,r3,R,K,b3⟩:=aZ (P:=P) 3 #[a0,a1,a2,a3,.int .i64 0,.int .i64 0,.string ⟨#[]⟩,.int .i64 0,.string ⟨#[]⟩,.pointer none,.slice none 0 0] m3 (by simp) o3 rfl;obtain⟨p,r4,S,k4,b4⟩:=aZ (P:=P) 4 #[a0,a1,a2,a3,a4,.int .i64 0,.string ⟨#[]⟩,.int .i64 0,.string ⟨#[]⟩,.pointer none,.slice none 0 0] R (by simp) o4 rfl;obtain⟨q,r5,T,L,b5⟩:=aZ (P:=P) 5 #[a0,a1,a2,a3,a4,a5,.string ⟨#[]⟩,.int .i64 0,.string ⟨#[]⟩,.pointer none,.slice none 0 0] S (by simp) o5 rfl;obtain⟨r,r6,U,M,D⟩:=aZ (P:=P) 6 #[a0,a1,a2,a3,a4,a5,i,.int .i64 0,.string ⟨#[]⟩,.pointer none,.slice none 0 0] T (by simp) o6 rfl;obtain⟨s,r7,V,N,E⟩:=aZ (P:=P) 7 #[a0,a1,a2,a3,a4,a5,i,j,.string ⟨#[]⟩,.pointer none,.slice none 0 0] U (by simp) o7 rfl;obtain⟨t,r8,W,O,F⟩:=aZ (P:=P) 8 #[a0,a1,a2,a3,a4,a5,i,j,k,.pointer none,.slice none 0 0] V (by simp) o8 rfl;obtain⟨f,r9,w,Q,G⟩:=aZ (P:=P) 9 #[a0,a1,a2,a3,a4,a5,i,j,k,a9,.slice none 0 0] W (by simp) o9 rfl;obtain⟨a,C,z,v,u⟩:=aZ (P:=P) 10 #[a0,a1,a2,a3,a4,a5,i,j,k,a9,e] w (by simp) A rfl;exact⟨l,m,n,o,p,q,r,s,t,f,a,r0,r1,r2,r3,r4,r5,r6,r7,r8,r9,C,z,λg d=>(v g d).trans ((Q g d).trans ((O g d).trans ((N g d).trans ((M g d).trans ((L g d).trans ((k4 g d).trans ((K g d).trans ((J g d).trans ((I g d).trans (H g d)))))))))),λB y c h=>u B y c (G B y c (F B y c (E B y c (D B y c (b5 B y c (b4 B y c (b3 B y c (b2 B y c (b1 B y c (b0 B y c (h)))))))))))⟩
abbrev MW(t:aJ)(co:Option Addr)(cn cc:Nat)(ro:Option Addr)(rn rc:Nat)(uo:Option Addr)(un uc:Nat):Obj:=.cells #[.string (aa t.name),.slice co cn cc,.slice ro rn rc,.int .i64 t.count,.string (aa t.aD),.slice uo un uc] 54
theorem QX:(Tryz.prog.info? 235).map (λi=>(i.zero,i.size,i.bytes))=some (some (.agg #[.string ⟨#[]⟩,.slice none 0 0,.slice none 0 0,.int .i64 0,.string ⟨#[]⟩,.slice none 0 0,.int .i64 0,.int .i64 0,.int .i64 0,.bool false,.int .i64 0,.int .i64 0,.string ⟨#[]⟩,.int .i64 0,.string ⟨#[]⟩,.pointer none,.slice none 0 0]),17,232):=by kernel_rfl
def dX(raws:List fw):List Value:=raws.flatMap λr=>r.arr.toList
theorem CL(a b:List fw):dX (a++b)=dX a++dX b:=by simp[dX]
theorem lL:∀(b:List fw) (i:Nat) (r:fw) (j:Nat),b[i]? =some r->j<17->(dX b)[i*17+j]? =r.arr[j]?
 | [],i,r,j,h,_=>by simp at h
 |a::rs,0,r,j,h,hj=>by
  simp at h;subst h;rw[Nat.zero_mul,Nat.zero_add,dX,List.flatMap_cons,List.getElem?_append_left (by simp;omega)];simp
 |a::rs,i+1,r,j,h,hj=>by
  have:=lL rs i r j (by simpa using h) hj;have c:a.arr.toList.length=17:=by simp
  rw[dX,List.flatMap_cons,List.getElem?_append_right (by rw[c];omega),c,show(i+1)*17+j- 17=i*17+j by omega];exact this
structure mX(w:World)(r:fw)(t:aJ):Prop where
 name:r.name=t.name
 count:r.count=t.count
 aD:r.aD=t.aD
 ax:dM w (.slice r.co r.cn r.cc) t.ax
 rows:RowsIn w (.slice r.ro r.rn r.rc) t.rows
 eZ:eD w (.slice r.uo r.un r.uc) t.eZ
theorem mX.full{w0 w:World}{a:List Nat}{r:fw}{t:aJ}{e:Ex}(h:mX w0 r t)(hb:Below w0.heap.size w0 w)(b:dJ w a (λ_=>True) r.ex e):mf w a r t e:=
 ⟨h.name,h.count,h.aD,h.ax.ag hb,h.rows.ag hb,h.eZ.ag hb,b⟩
def pq(w0 w:World)(bb:Nat)(FB:List Nat)(fns:List Fn)(ts:List (aJ × Ex)):Prop:=∃(fo:Option Addr) (fnn fc:Nat) (to':Option Addr) (tn tc:Nat) (raws:List fw),
 w0.heap.size<=bb/\Below w0.heap.size w0 w/\w.heap[bb]? =some (.cells #[.slice fo fnn fc,.slice to' tn tc] 194 (0,0))/\iP w FB (.slice fo fnn fc) fns/\
 w.ownsRow (bb+1) 235 17 (.slice to' tn tc) ts.length (dX raws)/\raws.length=ts.length/\ts.length<=4/\(ts.length=0->to'=none)/\
 ∀(i:Nat) (r:fw) (te:aJ × Ex),raws[i]? =some r->ts[i]? =some te->mX w0 r te.1/\dJ w FB (λ_=>True) r.ex te.2
theorem Sd{w0 w:World}{q:Nat}{m:List Nat}{k:List (aJ × Ex)}{h:Option Addr}{p o:Nat}{a:List fw}(hb:Below w0.heap.size w0 w)(l:w.ownsRow (q+1) 235 17 (.slice h p o) k.length (dX a))(A:a.length=k.length)(z:k.length<=4)
  (y:∀(i:Nat) (r:fw) (f:aJ × Ex),a[i]? =some r->k[i]? =some f->mX w0 r f.1/\dJ w m (λ_=>True) r.ex f.2):jm w m (.slice h p o) k:=by
 rcases l.2 with⟨e,n⟩|⟨g,cap,s,e,_,_,_⟩
 ·cases e;exact⟨none,0,by rw[n],by omega,.inl (List.length_eq_zero_iff.mp n)⟩
 ·cases e;refine⟨_,_,rfl,by omega,.inr ⟨g,rfl,(l.lt g rfl).2,λi f d=> ?_⟩⟩;have v:=(List.getElem?_eq_some_iff.mp d).1;have c:a[i]? =some a[i]:=List.getElem?_eq_getElem (by omega);obtain⟨t,u⟩:=y i _ f c d;have b:∀j,j<17->w.cell? ⟨g,i*17+j,none⟩=a[i].arr[j]? :=λj x=>(l.cellAt _ (by omega)).trans (lL a i _ j c x);exact⟨a[i],⟨b 0 (by omega),b 1 (by omega),b 2 (by omega),b 3 (by omega),b 4 (by omega),b 5 (by omega),b 6 (by omega),b 7 (by omega),b 8 (by omega),b 9 (by omega),b 10 (by omega),b 11 (by omega),b 12 (by omega),b 13 (by omega),b 14 (by omega),b 15 (by omega),b 16 (by omega)⟩,t.full hb u⟩
theorem Sb{w0 w wc w7:World}{L:Obj}{k A f:Nat}{E:List Nat}{fns:List Fn}{l:List (aJ × Ex)}{U:Option Addr}{x R:Nat}{o:Option Addr}{I H:Nat}{d:List fw}{S:Nat->Prop}{r:fw}{t:aJ}{y:Ex}
  (h0:w0.heap.size<=k) (X:Below w0.heap.size w0 w) (a6:k<w.heap.size) (C:Below w.heap.size w wc) (N:wc.heap[k]? =some (.cells #[.slice U x R,.slice o I H] 194 (0,0))) (hF:iP w E (.slice U x R) fns) (s:wc.ownsRow (k+1) 235 17 (.slice o I H) l.length (dX d)) (hl:d.length=l.length) (h3:l.length<=3) (P:l.length=0->o=none)
  (hr:∀(i:Nat) (r:fw) (Q:aJ × Ex),d[i]? =some r->l[i]? =some Q->mX w0 r Q.1/\dJ w E (λ_=>True) r.ex Q.2) (a4:mX w0 r t) (hx:dJ wc E S r.ex y)
  (D:w7.ownsRow (k+1) 235 17 (.slice (some ⟨A,0,none⟩) (l.length+1) f) (l.length+1) (dX d++r.arr.toList))
  (j:(wc.alloc L).drew.grownBy w7 (Value.slice o I H).ownBlock)
  (kB:w7.heap[k]? =some (.cells #[.slice U x R,.slice o I H] 194 (0,0))):
  pq w0 (w7.setCell ⟨k,1,none⟩ (.slice (some ⟨A,0,none⟩) (l.length+1) f)) k E fns (l++ [(t,y)])/\Below k w (w7.setCell ⟨k,1,none⟩ (.slice (some ⟨A,0,none⟩) (l.length+1) f)):=by
 have a8:=C.size;have Z:=j.size;simp only[size_drew,size_alloc]at Z;have n:∀g,g<wc.heap.size->g≠k->(Value.slice o I H).ownBlock≠some g->(w7.setCell ⟨k,1,none⟩ (.slice (some ⟨A,0,none⟩) (l.length+1) f)).heap[g]? =wc.heap[g]? :=by
  intro g h1 h2 h3;rw[heap_setCell _ _ _ _ h2,j.block g (by simp only[size_drew,size_alloc];omega) (λe=>h3 e.symm)];exact Below.heap_alloc _ _ _ h1
 have m:∀(g:Nat) (u:Array Value) (T:TypeId) (G:Nat × Nat),wc.heap[g]? =some (.cells u T G)->T=212\/T=3\/T=210->(w7.setCell ⟨k,1,none⟩ (.slice (some ⟨A,0,none⟩) (l.length+1) f)).heap[g]? =wc.heap[g]? :=by
  intro g u T G z hT;refine n g (ai z) (λe=> ?_) (λe=> ?_)
  ·subst e;rw[N]at z;cases z;revert hT;decide
  ·rcases s.2 with⟨h,_⟩|⟨g',J,K,h,_,hr,_⟩
   ·rw[h]at e;cases e
   ·rw[h]at e;cases e;rw[hr]at z;cases z;revert hT;decide
 have BF:Below k w (w7.setCell ⟨k,1,none⟩ (.slice (some ⟨A,0,none⟩) (l.length+1) f)):=by
  suffices hB:Below k w w7 from hB.setCell (p:=⟨k,1,none⟩) (Nat.le_refl _) _
  refine⟨j.os.trans C.os,j.tape.trans C.tape,j.output.trans C.output,by omega,λg V=> ?_⟩;have:=n g (by omega) (by omega) (λe=>by have:=(s.lt _ e).1;omega);rw[heap_setCell _ _ _ _ (by show g≠k;omega)]at this;exact this.trans (C.block g (by omega))
 refine⟨⟨U,x,R,some ⟨A,0,none⟩,l.length+1,f,d++ [r],h0,X.trans (BF.mono h0),by simp[setCell,Array.getElem?_modify,kB], ?_, ?_,by simp[hl],by simp;omega,(λh=>by simp at h),λi r' Q B v=> ?_⟩,BF⟩
 ·
  have W:=hF.ag C;obtain⟨ao,cap,e1,e2,e3,e4,e5⟩:=W;refine⟨ao,cap,e1,e2,e3, ?_,λi q fn a c=>(e5 i q fn a c).grow m⟩;rcases e4 with h|⟨b',e,hbl',hc⟩
  ·exact .inl h
  ·have a1:b'<(w7.setCell ⟨k,1,none⟩ (.slice (some ⟨A,0,none⟩) (l.length+1) f)).heap.size:=by
    simp[setCell];omega
   refine .inr ⟨b',e,a1,λi q hq=> ?_⟩;have b:=hc i q hq;have a2:b'≠k:=by
    intro F;subst F;rw[af N]at b
    match i,b with
    |0,b=>simp at b
    |1,b=>simp at b
    |(i+2),b=>simp at b
   have O:(Value.slice o I H).ownBlock≠some b':=by
    intro F;rcases s.2 with⟨h,_⟩|⟨g',J,K,h,_,a7,_⟩
    ·rw[h]at F;cases F
    ·rw[h]at F;cases F;obtain⟨q0,a3⟩:∃q0,E[0]? =some q0:=by
      have B:=(List.getElem?_eq_some_iff.mp hq).1;exact⟨E[0],List.getElem?_eq_getElem (by omega)⟩
     have M:=hc 0 q0 a3
     cases h;rcases Nat.eq_zero_or_pos l.length with hz|hz
     ·have:=P hz;cases this
     ·have a5:d[0]? =some d[0]:=List.getElem?_eq_getElem (by omega);have Y:=(s.cellAt 0 (by omega)).trans ((lL d 0 _ 0 a5 (by omega)));rw[Y]at M;simp at M
   rw[World.cell?_of_block (w:=wc) (n b' hbl' a2 O)];exact b
 ·rw[CL,List.length_append];have:dX [r]=r.arr.toList:=by simp[dX]
  rw[this];exact ownsRow_setCell_below D (by show k<k+1;omega) _
 ·rcases Nat.lt_or_ge i d.length with hlt|hge
  ·rw[List.getElem?_append_left hlt]at B;rw[List.getElem?_append_left (by omega)]at v;obtain⟨q1,q2⟩:=hr i r' Q B v;exact⟨q1,(q2.ag C).typed.move (λg V=>by obtain⟨_,u,G,z⟩:=V;exact m g u _ G z (.inr (.inr rfl))) (λ_ _=>trivial)⟩
  ·rw[List.getElem?_append_right hge]at B;rw[List.getElem?_append_right (by omega)]at v;have a0:i- d.length=0:=by
    have:=(List.getElem?_eq_some_iff.mp B).1;simp at this;omega
   rw[a0]at B;rw[show i- l.length=0 by omega]at v;simp at B v;subst B v;exact⟨a4,hx.typed.move (λg V=>by obtain⟨_,u,G,z⟩:=V;exact m g u _ G z (.inr (.inr rfl))) (λ_ _=>trivial)⟩
def Ac(o:Except Int Ex):Except Int Ex:=match o with
 | .error n=>.error n
 | .ok x=>if !(x.ty==3)|| !x.quiet then .error 5 else .ok x
def cZ(fns:List Fn)(ts:List (aJ × Ex))(t:aJ):Except Int Ex:=
 if aK [fU (!aU t.name||(oW ts t.name==0)) 2,fU (!bJ t) 6]≠0 then .error (aK [fU (!aU t.name||(oW ts t.name==0)) 2,fU (!bJ t) 6])
 else Ac (eG bA (t.ax.map (dO [114,111,119]),[]) fns t.aD)
def Qx(w0 w:World)(bb:Nat)(FB:List Nat)(fns:List Fn)(ts:List (aJ × Ex))(t:aJ)(o:Except Int Ex)(e:Ending)(w':World):Prop:=
 (∃n:Int,o=.error n/\n≠0/\e=.returned (.int .i64 n)/\Below w.heap.size w w')\/
 (∃x:Ex,o=.ok x/\e=.returned (.int .i64 0)/\pq w0 w' bb FB fns (ts++ [(t,x)])/\Below bb w w')
def kJ(n:Nat):Code->Option Code
 | .region id ops b=>if id=n then some (.region id ops b)else none
 | .seq a b=>match kJ n a with
  |some c=>some c
  |none=>kJ n b
 | .block _ c=>kJ n c
 | .scope c=>kJ n c
 | .loop c=>kJ n c
 | .cond _ a b=>match kJ n a with
  |some c=>some c
  |none=>kJ n b
 |_=>none
def SV(f:Func):Code:=((f.body.bind (kJ 1)).getD .skip)
def NL(f:Func):Code:=((f.body.bind (kJ 2)).getD .skip)
theorem DY(d:Nat)(w W:World)(t:aJ)(co:Option Addr)(cn cc:Nat)(ro:Option Addr)(rn rc:Nat)(uo:Option Addr)(un uc:Nat)(fo:Option Addr)(n fc:Nat)(o:Option Addr)(tn tc:Nat)(n6:Int)(b:d<W.heap.size)(q:w.heap.size<W.heap.size)(g2:W.heap.size=w.heap.size+1)
  (b0:W.cell? ⟨d,0,none⟩=some (.slice fo n fc)) (b1:W.cell? ⟨d,1,none⟩=some (.slice o tn tc)) (d0:W.cell? ⟨w.heap.size,0,none⟩=some (.string (aa t.name)))
  (HT:∀x:World,Below W.heap.size W x->Calls prog 76 #[.agg #[.slice fo n fc,.slice o tn tc],.string (aa t.name)] x λe w'=>Below W.heap.size W w'/\Below x.heap.size x w'/\∃a0 a1 a2 a3 a4 a5 a6 a7 a8 a9 f g h i j k l,rU a0 a1 a2 a3 a4 a5 a6 a7 a8 a9 f g h i j k l/\e=.returned (.tuple #[.agg #[a0,a1,a2,a3,a4,a5,a6,a7,a8,a9,f,g,h,i,j,k,l],.int .i64 n6]))
  (u2 u4 u5 u6 u7 u8 u9 g3 g4 g5 g6 g7 g8 g9 h0 r s u v y z A B C D E F G H I J L M N O Q R S T U V X Y Z b2 b3 b4 b5 b6 b7 b8 b9 c0 c1 c2 c3 c4 c5 c6 c7 c8 c9 e0 e1 e2 e3 e4 e5 e6 e7 e8 e9 g0 g1:Value) (K:Act->World->Prop) (P:Ending->World->Prop) (hK:∀(v5 v9 h1 h2 h3 h4 h5 h6 h7 h8:Value) (wx:World),Below W.heap.size W wx->K ⟨#[.pointer (some ⟨d,0,none⟩),.agg #[.string (aa t.name),.slice co cn cc,.slice ro rn rc,.int .i64 t.count,.string (aa t.aD),.slice uo un uc],u2,.pointer (some ⟨w.heap.size,0,none⟩),u4,v5,.int .i64 n6,u7,u8,v9,h1,h2,h3,h4,h5,h6,h7,h8,r,s,u,v,y,z,A,B,C,D,E,F,G,H,I,J,L,M,N,O,Q,R,S,T,U,V,X,Y,Z,b2,b3,b4,b5,b6,b7,b8,b9,c0,c1,c2,c3,c4,c5,c6,c7,c8,c9,e0,e1,e2,e3,e4,e5,e6,e7,e8,e9,g0,g1],[]⟩ wx):
  Code.wp prog (SV Tryz.f111) (Exit.then K (bodyPost prog Tryz.f111 P)) ⟨#[.pointer (some ⟨d,0,none⟩),.agg #[.string (aa t.name),.slice co cn cc,.slice ro rn rc,.int .i64 t.count,.string (aa t.aD),.slice uo un uc],u2,.pointer (some ⟨w.heap.size,0,none⟩),u4,u5,u6,u7,u8,u9,g3,g4,g5,g6,g7,g8,g9,h0,r,s,u,v,y,z,A,B,C,D,E,F,G,H,I,J,L,M,N,O,Q,R,S,T,U,V,X,Y,Z,b2,b3,b4,b5,b6,b7,b8,b9,c0,c1,c2,c3,c4,c5,c6,c7,c8,c9,e0,e1,e2,e3,e4,e5,e6,e7,e8,e9,g0,g1],[]⟩ W:=by
 conv=>arg 2;whnf
 have HK:Hid _:=hK;clear hK
 go_region_held2 (λx=>x.cell? ⟨d,0,none⟩=some (.slice fo n fc)/\x.cell? ⟨d,1,none⟩=some (.slice o tn tc)/\x.cell? ⟨w.heap.size,0,none⟩=some (.string (aa t.name))) (go_keep) (first|(go_at_call 76;refine(HT _ ?_).mono ?_;(first|exact(refl _ W).drew|exact refl _ W|exact(ae W _).drew|exact ae W _);rintro e w2 ⟨a,hb2,a0,a1,a2,a3,a4,a5,a6,a7,a8,a9,f,g,h,i,j,k,l,⟨o0,o1,o2,o3,o4,o5,o6,o7,o8,o9,o10,o11,o12,o13,o14,o15,o16⟩,rfl⟩;have t0:=(a.cell (p:=⟨d,0,none⟩) b).trans b0;have t1:=(a.cell (p:=⟨d,1,none⟩) b).trans b1;have t2:=(a.cell (p:=⟨w.heap.size,0,none⟩) q).trans d0;(first|(have m0:=UQ hb2 g2)|(have m0:=heap_alloc_new w2 (.cells #[.string ⟨#[]⟩,.slice none 0 0,.slice none 0 0,.int .i64 0,.string ⟨#[]⟩,.slice none 0 0,.int .i64 0,.int .i64 0,.int .i64 0,.bool false,.int .i64 0,.int .i64 0,.string ⟨#[]⟩,.int .i64 0,.string ⟨#[]⟩,.pointer none,.slice none 0 0] 235)));obtain⟨x1,x2,x3,x4,x5,x6,x7,x8,x9,i7,i8,i9,j0,j1,j2,j3,h9,r0,r1,r2,r3,r4,r5,r6,r7,r8,r9,i0,i1,i2,i3,i4,i5,i6,m⟩:=MS (P:=prog) m0 a0 a1 a2 a3 a4 a5 a6 a7 a8 a9 f g h i j k l o0 o1 o2 o3 o4 o5 o6 o7 o8 o9 o10 o11 o12 o13 o14 o15 o16;have c:Below W.heap.size W h9:=(by first|exact m _ _ (by omega) a|exact m _ _ a.size (a.alloc a.size _));have y0:=(c.cell (p:=⟨d,0,none⟩) b).trans b0;have y1:=(c.cell (p:=⟨d,1,none⟩) b).trans b1;have y2:=(c.cell (p:=⟨w.heap.size,0,none⟩) q).trans d0))
 all_goals exact HK.out _ _ _ _ _ _ _ _ _ _ _ (by first|exact c|exact c.drew)
theorem BJ(bb:Nat)(w:World)(t:aJ)(co:Option Addr)(cn cc:Nat)(ro:Option Addr)(rn rc:Nat)(uo:Option Addr)(un uc:Nat)(wc:World)(n6:Int)(it:Bool)(a:w.heap.size<wc.heap.size)
  (c0:wc.cell? ⟨w.heap.size,0,none⟩=some (.string (aa t.name))) (c1:wc.cell? ⟨w.heap.size,1,none⟩=some (.slice co cn cc)) (c2:wc.cell? ⟨w.heap.size,2,none⟩=some (.slice ro rn rc)) (c3:wc.cell? ⟨w.heap.size,3,none⟩=some (.int .i64 t.count)) (c4:wc.cell? ⟨w.heap.size,4,none⟩=some (.string (aa t.aD))) (c5:wc.cell? ⟨w.heap.size,5,none⟩=some (.slice uo un uc))
  (HW:∀x:World,Calls prog 171 #[.string (aa t.name)] x λe w'=>e=.returned (.bool true)/\w'=x) (b1:∀x:World,Below wc.heap.size wc x->Calls prog 188 #[.agg #[.string (aa t.name),.slice co cn cc,.slice ro rn rc,.int .i64 t.count,.string (aa t.aD),.slice uo un uc]] x λe w'=>Below wc.heap.size wc w'/\e=.returned (.bool it))
  (u2 u4 u5 u7 u8 u9 f g h i j k l m b2 b3 b4 b5 b6 b7 b8 b9 c6 c7 c8 c9 e0 e1 e2 n o q r s u v y z A B C D E F G H I J L M N O Q R S T U V W X Y Z a0 a1 a2 a3 a4 a5 a6 a7 a8 a9 b0:Value) (K:Act->World->Prop) (P:Ending->World->Prop) (hK:∀(e3 e4 v20 v21 e5 e6 e7 e8 e9 g0 g1 g2 g3 g4 g5:Value) (wx:World),Below wc.heap.size wc wx->K ⟨#[.pointer (some ⟨bb,0,none⟩),.agg #[.string (aa t.name),.slice co cn cc,.slice ro rn rc,.int .i64 t.count,.string (aa t.aD),.slice uo un uc],u2,.pointer (some ⟨w.heap.size,0,none⟩),u4,u5,.int .i64 n6,.int .i64 (aK [fU (!true||(n6==0)) 2,fU (!it) 6]),u8,u9,f,g,h,i,j,k,l,m,e3,e4,v20,v21,e5,e6,e7,e8,e9,g0,g1,g2,g3,g4,g5,n,o,q,r,s,u,v,y,z,A,B,C,D,E,F,G,H,I,J,L,M,N,O,Q,R,S,T,U,V,W,X,Y,Z,a0,a1,a2,a3,a4,a5,a6,a7,a8,a9,b0],[]⟩ wx):
  Code.wp prog (NL Tryz.f111) (Exit.then K (bodyPost prog Tryz.f111 P)) ⟨#[.pointer (some ⟨bb,0,none⟩),.agg #[.string (aa t.name),.slice co cn cc,.slice ro rn rc,.int .i64 t.count,.string (aa t.aD),.slice uo un uc],u2,.pointer (some ⟨w.heap.size,0,none⟩),u4,u5,.int .i64 n6,u7,u8,u9,f,g,h,i,j,k,l,m,b2,b3,b4,b5,b6,b7,b8,b9,c6,c7,c8,c9,e0,e1,e2,n,o,q,r,s,u,v,y,z,A,B,C,D,E,F,G,H,I,J,L,M,N,O,Q,R,S,T,U,V,W,X,Y,Z,a0,a1,a2,a3,a4,a5,a6,a7,a8,a9,b0],[]⟩ wc:=by
 conv=>arg 2;whnf
 have HK:Hid _:=hK;clear hK;have c:∀x:World,Below wc.heap.size wc x->x.cell? ⟨w.heap.size,0,none⟩=some (.string (aa t.name))/\x.cell? ⟨w.heap.size,1,none⟩=some (.slice co cn cc)/\x.cell? ⟨w.heap.size,2,none⟩=some (.slice ro rn rc)/\x.cell? ⟨w.heap.size,3,none⟩=some (.int .i64 t.count)/\x.cell? ⟨w.heap.size,4,none⟩=some (.string (aa t.aD))/\x.cell? ⟨w.heap.size,5,none⟩=some (.slice uo un uc):=λx d=>
  ⟨(d.cell (p:=⟨w.heap.size,0,none⟩) a).trans c0,(d.cell (p:=⟨w.heap.size,1,none⟩) a).trans c1,(d.cell (p:=⟨w.heap.size,2,none⟩) a).trans c2,(d.cell (p:=⟨w.heap.size,3,none⟩) a).trans c3,(d.cell (p:=⟨w.heap.size,4,none⟩) a).trans c4,(d.cell (p:=⟨w.heap.size,5,none⟩) a).trans c5⟩
 go_region_held2 (λx=>x.cell? ⟨w.heap.size,0,none⟩=some (.string (aa t.name))/\x.cell? ⟨w.heap.size,1,none⟩=some (.slice co cn cc)/\x.cell? ⟨w.heap.size,2,none⟩=some (.slice ro rn rc)/\x.cell? ⟨w.heap.size,3,none⟩=some (.int .i64 t.count)/\x.cell? ⟨w.heap.size,4,none⟩=some (.string (aa t.aD))/\x.cell? ⟨w.heap.size,5,none⟩=some (.slice uo un uc)) (go_keep) (first
  |(go_at_call 171;refine(HW _).mono ?_;rintro e w2 ⟨rfl,rfl⟩)
  |(go_at_call 188;refine(b1 _ ?_).mono ?_;exact(refl _ wc).drew;rintro e w3 ⟨b,rfl⟩;obtain⟨y0,y1,y2,y3,y4,y5⟩:=c w3 b)
  |(go_at_call 123;refine(jf _ _ _).mono ?_;rintro e w4 ⟨rfl,rfl⟩)
  |(go_at_call 66;refine(nk _ _ _).mono ?_;rintro e w5 ⟨rfl,rfl⟩))
 all_goals exact HK.out _ _ _ _ _ _ _ _ _ _ _ _ _ _ _ _ (by first|exact b.alloc b.size _|exact(b.alloc b.size _).drew)
theorem BI(bb:Nat)(w:World)(t:aJ)(co:Option Addr)(cn cc:Nat)(ro:Option Addr)(rn rc:Nat)(uo:Option Addr)(un uc:Nat)(wc:World)(n6:Int)(it:Bool)(a:w.heap.size<wc.heap.size)
  (c0:wc.cell? ⟨w.heap.size,0,none⟩=some (.string (aa t.name))) (c1:wc.cell? ⟨w.heap.size,1,none⟩=some (.slice co cn cc)) (c2:wc.cell? ⟨w.heap.size,2,none⟩=some (.slice ro rn rc)) (c3:wc.cell? ⟨w.heap.size,3,none⟩=some (.int .i64 t.count)) (c4:wc.cell? ⟨w.heap.size,4,none⟩=some (.string (aa t.aD))) (c5:wc.cell? ⟨w.heap.size,5,none⟩=some (.slice uo un uc))
  (HW:∀x:World,Calls prog 171 #[.string (aa t.name)] x λe w'=>e=.returned (.bool false)/\w'=x) (b1:∀x:World,Below wc.heap.size wc x->Calls prog 188 #[.agg #[.string (aa t.name),.slice co cn cc,.slice ro rn rc,.int .i64 t.count,.string (aa t.aD),.slice uo un uc]] x λe w'=>Below wc.heap.size wc w'/\e=.returned (.bool it))
  (u2 u4 u5 u7 u8 u9 f g h i j k l m b2 b3 b4 b5 b6 b7 b8 b9 c6 c7 c8 c9 e0 e1 e2 n o q r s u v y z A B C D E F G H I J L M N O Q R S T U V W X Y Z a0 a1 a2 a3 a4 a5 a6 a7 a8 a9 b0:Value) (K:Act->World->Prop) (P:Ending->World->Prop) (hK:∀(e3 e4 v20 v21 e5 e6 e7 e8 e9 g0 g1 g2 g3 g4 g5:Value) (wx:World),Below wc.heap.size wc wx->K ⟨#[.pointer (some ⟨bb,0,none⟩),.agg #[.string (aa t.name),.slice co cn cc,.slice ro rn rc,.int .i64 t.count,.string (aa t.aD),.slice uo un uc],u2,.pointer (some ⟨w.heap.size,0,none⟩),u4,u5,.int .i64 n6,.int .i64 (aK [fU (!false||(n6==0)) 2,fU (!it) 6]),u8,u9,f,g,h,i,j,k,l,m,e3,e4,v20,v21,e5,e6,e7,e8,e9,g0,g1,g2,g3,g4,g5,n,o,q,r,s,u,v,y,z,A,B,C,D,E,F,G,H,I,J,L,M,N,O,Q,R,S,T,U,V,W,X,Y,Z,a0,a1,a2,a3,a4,a5,a6,a7,a8,a9,b0],[]⟩ wx):
  Code.wp prog (NL Tryz.f111) (Exit.then K (bodyPost prog Tryz.f111 P)) ⟨#[.pointer (some ⟨bb,0,none⟩),.agg #[.string (aa t.name),.slice co cn cc,.slice ro rn rc,.int .i64 t.count,.string (aa t.aD),.slice uo un uc],u2,.pointer (some ⟨w.heap.size,0,none⟩),u4,u5,.int .i64 n6,u7,u8,u9,f,g,h,i,j,k,l,m,b2,b3,b4,b5,b6,b7,b8,b9,c6,c7,c8,c9,e0,e1,e2,n,o,q,r,s,u,v,y,z,A,B,C,D,E,F,G,H,I,J,L,M,N,O,Q,R,S,T,U,V,W,X,Y,Z,a0,a1,a2,a3,a4,a5,a6,a7,a8,a9,b0],[]⟩ wc:=by
 conv=>arg 2;whnf
 have HK:Hid _:=hK;clear hK;have c:∀x:World,Below wc.heap.size wc x->x.cell? ⟨w.heap.size,0,none⟩=some (.string (aa t.name))/\x.cell? ⟨w.heap.size,1,none⟩=some (.slice co cn cc)/\x.cell? ⟨w.heap.size,2,none⟩=some (.slice ro rn rc)/\x.cell? ⟨w.heap.size,3,none⟩=some (.int .i64 t.count)/\x.cell? ⟨w.heap.size,4,none⟩=some (.string (aa t.aD))/\x.cell? ⟨w.heap.size,5,none⟩=some (.slice uo un uc):=λx d=>
  ⟨(d.cell (p:=⟨w.heap.size,0,none⟩) a).trans c0,(d.cell (p:=⟨w.heap.size,1,none⟩) a).trans c1,(d.cell (p:=⟨w.heap.size,2,none⟩) a).trans c2,(d.cell (p:=⟨w.heap.size,3,none⟩) a).trans c3,(d.cell (p:=⟨w.heap.size,4,none⟩) a).trans c4,(d.cell (p:=⟨w.heap.size,5,none⟩) a).trans c5⟩
 first
  |(go_region_with(first
    |(go_at_call 171;refine(HW _).mono ?_;rintro e w2 ⟨rfl,rfl⟩)
    |(go_at_call 188;refine(b1 _ ?_).mono ?_;exact(refl _ wc).drew;rintro e w3 ⟨b,rfl⟩;obtain⟨y0,y1,y2,y3,y4,y5⟩:=c w3 b)
    |(go_at_call 123;refine(jf _ _ _).mono ?_;rintro e w4 ⟨rfl,rfl⟩)
    |(go_at_call 66;refine(nk _ _ _).mono ?_;rintro e w5 ⟨rfl,rfl⟩)))
  |fail
 all_goals exact HK.out _ _ _ _ _ _ _ _ _ _ _ _ _ _ _ _ (by first|exact b.alloc b.size _|exact(b.alloc b.size _).drew)
end Go.Proofs.YtdifpeaklamhnaaGreatDoor
