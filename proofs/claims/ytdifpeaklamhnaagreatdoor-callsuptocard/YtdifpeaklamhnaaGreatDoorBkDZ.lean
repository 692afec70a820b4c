import Derived.Test.YtdifpeaklamhnaaGreatDoorLoEZ
import Derived.Test.YtdifpeaklamhnaaGreatDoorTaEZ
import Derived.Test.YtdifpeaklamhnaaGreatDoorEwRZ
set_option linter.unusedVariables false
set_option linter.unusedSimpArgs false
set_option maxRecDepth 100000
set_option maxHeartbeats 0
namespace Go.Proofs.YtdifpeaklamhnaaGreatDoor
open Go.Proofs.Tryz
open Go.RowKit
open List (replicate getElem?_take getElem?_replicate length_take length_append length_replicate getElem?_append_right mem_cons not_mem_nil)
open Value (string slice)
open World (news_of_block ownsRow_nil frozen? setCell)
open Below (refl heap_setCell heap_alloc)
open Nat (lt_or_ge mul_one zero_le sub_self)
def qA(w:World)(base:Nat)(m v:Value)(n:Nat):Prop:=w.ownsRow base 9 1 v n (replicate n m)
theorem qA.ah{w x:World}{a:Nat}{m v:Value}{n:Nat}(h:qA w a m v n)(b:∀g,v.ownBlock=some g->x.heap[g]? =w.heap[g]?):qA x a m v n:=aA h b
theorem Gs{l:List Value}{n:Nat}{m:Value}(h:l.take n=replicate n m):∀j,j<n->l[j]? =some m:=λj a=>by
 have:=congrArg (λx=>x[j]?) h;simpa[getElem?_take,a,getElem?_replicate]using this
theorem PU{l:List Value}{n:Nat}{m:Value}(h:∀j,j<n->l[j]? =some m):l.take n=replicate n m:=by
 apply List.ext_getElem?;intro j;rw[getElem?_take,getElem?_replicate];split
 ·next a=>exact h j a
 ·rfl
theorem PT{l:List Value}{n k a:Nat}{m:Value}(e:n+k<=l.length)(b:l.take n=replicate n m)(c:l.take a=replicate a m):(l.take n++replicate k m++l.drop (n+k)).take a=replicate a m:=by
 refine PU λj d=> ?_;rcases lt_or_ge j n with h|h
 ·rw[List.append_assoc,List.getElem?_append_left (by rw[length_take];omega),getElem?_take,if_pos h];exact Gs b j h
 ·rcases lt_or_ge j (n+k)with h'|h'
  ·rw[List.getElem?_append_left (by rw[length_append,length_take,length_replicate];omega),getElem?_append_right (by rw[length_take];omega),length_take,getElem?_replicate,if_pos (by omega)]
  ·rw[getElem?_append_right (by rw[length_append,length_take,length_replicate];omega),length_append,length_take,length_replicate,List.getElem?_drop,show n+k+(j- (min n l.length+k))=j by omega];exact Gs c j d
theorem qA.fresh{w:World}{a:Nat}{m:Value}(o:Obj){u:Value}{b:Nat}(h:qA w a m u b):qA (w.drew.alloc o) a m u b:=World.ownsRow.alloc (World.ownsRow.drew h) o
theorem vX(w:World)(d:Nat)(ty:TypeId){i:TypeInfo}{z:Value}(I:Tryz.prog.info? 9=some i)(S:i.zero=some z)(a:i.size=1)(t:i.bytes=16)(T:z.cells.size=1){m:Value}(Q:m.oneCell'=true)(v:Value)(n:Nat)(l:qA w d m v n)(r:Addr)(k c:Nat)(hk:0<k)(y:∀j,j<k->w.cell? (r.add j)=some m)(a0:n+k<=1000000)(s:d<=w.heap.size):
  ∃v' w',(Builtin.append_ #[52,52] ty #[v,.slice (some r) k c]).run prog w=.ok v' w'/\qA w' d m v' (n+k)/\w.grownBy w' v.ownBlock/\(v'.ownBlock=v.ownBlock\/v'.ownBlock=some w.heap.size)/\∀u U,qA w d m u U->qA w' d m u U:=by
 have J:(replicate k m).length=k*1:=by simp
 have b:∀j u,(replicate k m)[j]? =some u->w.cell? (r.add j)=some u:=λj u e=>by
  rw[getElem?_replicate]at e;split at e
  ·next h=>cases e;exact y j h
  ·cases e
 have V:∀u∈replicate k m,u.oneCell'=true:=λu e=>by rw[List.eq_of_mem_replicate e];exact Q
 have O:n+k<=maxLen:=by unfold maxLen;omega
 obtain⟨v',w',K,W,Y,_,Z⟩:=run_append_own_at (P:=prog) w d 52 ty 9 i z 1 16 Tryz.underlying52 I S a t T (by omega) v n (replicate n m) l r k c (replicate k m) J b V O (by omega) s;rw[List.replicate_append_replicate]at W;refine⟨v',w',K,W,Y,Z,λu U e=> ?_⟩;rcases l.2 with⟨rfl,rfl⟩|⟨g,cap,D,rfl,a1,N,a3,a2,M,o⟩
 ·have q:=run_append_nil (P:=prog) w 52 ty 9 i z Tryz.underlying52 I S r k c (replicate k m) (by rw[a];exact J) b hk (by omega) (by rw[t];omega);rw[K]at q;injection q with _ hw
  rw[hw];exact e.fresh _
 ·by_cases B:n+k<=cap
  ·have q:=run_append_room (P:=prog) w 52 ty 9 i Tryz.underlying52 I g n cap D N r k c (replicate k m) (by rw[a];exact J) b V B (by rw[a,length_replicate];omega);rw[K]at q;injection q with _ hw
   rw[a,mul_one,length_replicate]at hw;rw[hw];rw[mul_one]at o M;rcases e.2 with⟨rfl,rfl⟩|⟨E,p,f,rfl,F,x,H,G,R,C⟩
   ·exact⟨e.1,.inl ⟨rfl,rfl⟩⟩
   ·by_cases X:E=g
    ·subst X;have L:f=D:=by rw[N]at x;cases x;rfl
     subst L;refine⟨e.1,.inr ⟨E,p,_,rfl,F,setRow_heap w E f _ _ _ N,H,G, ?_, ?_⟩⟩
     ·simp only[List.size_toArray,length_append,length_take,List.length_drop,Array.length_toList,length_replicate];omega
     ·rw[mul_one]at C ⊢;exact PT (by rw[Array.length_toList];omega) o C
    ·exact⟨e.1,.inr ⟨E,p,f,rfl,F,(setRow_other w g E _ X).trans x,H,G,R,C⟩⟩
  ·have A:∀j u,(replicate n m)[j]? =some u->w.cell? ((⟨g,0,none⟩:Addr).add j)=some u:=World.ownsRow.cells l (g:=g) rfl;have q:=run_append_grow (P:=prog) w 52 ty 9 i z Tryz.underlying52 I S ⟨g,0,none⟩ n cap (replicate n m) (by rw[a];simp) A r k c (replicate k m) (by rw[a];exact J) b (by omega) (by omega) (growslice_fits (by omega) (by rw[t];omega));rw[K]at q;injection q with _ hw
   rw[hw];exact e.fresh _
theorem iZ(w:World){l:Array Oper}{rest:List Oper}{o:Oper}{a:Act}{Q:Exit->Act->World->Prop}(t:o.guard=none)(s x:Operand)
  (J:o.op=.call {callee:=.builtin .append,args:= #[s,x],argTypes:= #[52,52]})
  (b:Nat) {i:TypeInfo} {z:Value} (H:Tryz.prog.info? 9=some i) (O:i.zero=some z) (f:i.size=1) (r:i.bytes=16) (A:z.cells.size=1) {m:Value} (y:m.oneCell'=true) (v:Value) (n:Nat) (M:a.eval s=v) (g:qA w b m v n) (p:Addr) (k c:Nat) (N:a.eval x=.slice (some p) k c) (I:0<k) (e:∀j,j<k->w.cell? (p.add j)=some m) (q:n+k<=1000000) (d:b<=w.heap.size)
  (h:∀v' w',qA w' b m v' (n+k)->w.grownBy w' v.ownBlock->(v'.ownBlock=v.ownBlock\/v'.ownBlock=some w.heap.size)->(∀u B,qA w b m u B->qA w' b m u B)->wpList prog l Q rest (a.put o.dst v') w'):wpList prog l Q (o::rest) a w:=by
 refine wpList_plain t λK G=> ?_;obtain⟨v',w',L,C,D,E,F⟩:=vX w b o.type H O f r A y v n g p k c I e q d;unfold Oper.wp execOp;simp only[J,resolve,invoke,builtin,Sem.run_bind,Sem.run_pure,Result.andThen_ok,List.map_toArray,List.map_cons,List.map_nil,M,N,L];exact G _ _ (h v' w' C D E F)
def Sy(n k:Nat):UInt8:=UInt8.ofNat (n / k % 256)
def Qn(n:Nat):Bs:=[Sy n 1,Sy n 256,Sy n 65536,109]
theorem CU(n k:Nat):((Sy n k).toNat:Int)=(n / k:Nat) % 256:=by
 unfold Sy;simp[UInt8.toNat_ofNat']
theorem Rm(n:Nat)(g:n<=16000000)(w:World):(convert 174 9 (.slice (some ⟨w.heap.size,0,none⟩) 4 4)).run prog (w.alloc (.cells #[.int .u8 ((n:Int) % 256),.int .u8 ((n:Int) / 256 % 256),.int .u8 ((n:Int) / 65536),.int .u8 109] 5))=.ok (.string (aa (Qn n))) (w.alloc (.cells #[.int .u8 ((n:Int) % 256),.int .u8 ((n:Int) / 256 % 256),.int .u8 ((n:Int) / 65536),.int .u8 109] 5)):=by
 have b:((n:Int) % 256)=((Sy n 1).toNat:Int):=by rw[CU];simp
 have c:((n:Int) / 256 % 256)=((Sy n 256).toNat:Int):=by rw[CU];omega
 have d:((n:Int) / 65536)=((Sy n 65536).toNat:Int):=by rw[CU];omega
 have f:(109:Int)=((109:UInt8).toNat:Int):=by decide
 rw[b,c,d];exact run_convert_bytes_back (P:=prog) _ 174 9 5 ⟨w.heap.size,0,none⟩ 4 (Qn n) Tryz.underlying174 Tryz.underlying5 Tryz.underlying9 (by
  intro m e;have a:m<4:=e
  match m,a with
  |0,_|1,_|2,_|3,_=>exact(ag (heap_alloc_new w _)).trans rfl)
theorem uC(n:Nat)(b:n<=16000000)(w:World):Calls prog 53 #[.int .i64 (n:Int)] w λe w'=>e=.returned (.string (aa (Qn n)))/\Below w.heap.size w w':=by
 have a:=Rm n b w;go_enter Tryz.func53,Tryz.ntmps53
 go_wp2_with fail
 go_ret;exact⟨rfl,ae w _⟩
def Nh(w:World)(v:Value)(l:Bs):Prop:=∃(ao:Option Addr) (n cap:Nat),v=.slice ao n cap/\n<=1000000/\(n=0\/∃b off,ao=some ⟨b,off,none⟩/\b<w.heap.size/\∀i,i<n->w.cell? ⟨b,off+i,none⟩=some (.string (aa l)))
theorem Nh.ah{w x:World}{v:Value}{l:Bs}(h:Nh w v l)(hb:Below w.heap.size w x):Nh x v l:=by
 obtain⟨a,n,cap,c,d,f⟩:=h;refine⟨a,n,cap,c,d, ?_⟩;rcases f with h|⟨b,off,e,hl,hc⟩
 ·exact .inl h
 ·exact .inr ⟨b,off,e,Nat.lt_of_lt_of_le hl hb.size,λi g=>(hb.cell (p:=⟨b,off+i,none⟩) hl).trans (hc i g)⟩
theorem Cg(w:World)(v:Value)(n:Nat)(z:n<=16000000)(h:Nh w v (Qn n)):Calls prog 17 #[v,.int .i64 (n:Int)] w λe w'=>e=.returned (.bool true)/\Below w.heap.size w w':=by
 obtain⟨D,k,cap,rfl,F,g⟩:=h;have s:=λx:World=>uC n z x;obtain⟨m,o⟩:∃m,m=aa (Qn n):=⟨_,rfl⟩;rw[<-o]at g;simp only[<-o]at s;clear o;go_enter Tryz.func17,Tryz.ntmps17
 go_wp2_with fail
 go_loopg [5] k (λgk B wr=>∃i:Nat,gk=k- i/\i<=k/\B=.int .i64 i/\Below w.heap.size w wr)
 case atStart=>exact⟨0,rfl,zero_le _,rfl,refl _ _⟩
 case round=>
  obtain⟨i,j,E,rfl,f⟩:=hrel;subst j;have A:=f.size;by_cases l:i<k
  ·obtain⟨b,d,rfl,hb,t⟩:=g.resolve_left (by omega);have C:=(f.cell (p:=⟨b,d+i,none⟩) hb).trans (t i l);have c:b<wr.heap.size:=by omega
   clear t g;generalize q:wr=wo at*;clear q;go_upto_region 4 with fail
   go_cut [18] (λr wx=>r=.bool false/\Hid (Below wo.heap.size wo wx))
   case first=>
    go_region_with(go_at_call 53;refine(s _).mono ?_;rintro e w2 ⟨rfl,a⟩;replace a:=iA a;have G:=(a.cell (p:=⟨b,d+i,none⟩) c).trans C;have y:=Nat.lt_of_lt_of_le c a.size);all_goals(go_wp2_with fail;go_meet)
    all_goals exact⟨by simp,a⟩
   case rest=>
    obtain⟨rfl,u⟩:=hcut
    go_wp2_with fail
    go_roundg (k- (i+1))
    case measure=>omega
    case rel=>exact⟨i+1,rfl,by omega,by go_num,f.trans (u.out.mono A)⟩
  ·clear g
   go_wp2_with fail
   go_ret;exact⟨rfl,f⟩
theorem uO(w:World)(u v:Value)(g:List Bs)(E:iX w u g)(F:iX w v g):Calls prog 33 #[u,v] w λe w'=>e=.returned (.bool true)/\Below w.heap.size w w':=by
 obtain⟨J,cap,rfl,B,t⟩:=E;obtain⟨K,y,rfl,_,r⟩:=F;obtain⟨k,a⟩:∃k,k=g.length:=⟨_,rfl⟩;rw[<-a];rw[<-a]at B;unfold maxLen at B;have h:Hid _:=a;clear a;go_enter Tryz.func33,Tryz.ntmps33
 go_wp2_with fail
 go_loopg [5] k (λgk G wr=>∃i:Nat,gk=k- i/\i<=k/\G=.int .i64 i/\Below w.heap.size w wr)
 case atStart=>exact⟨0,rfl,zero_le _,rfl,refl _ _⟩
 case round=>
  obtain⟨i,o,L,rfl,f⟩:=hrel;subst o;have M:=f.size;by_cases D:i<k
  ·have d:g≠ []:=by intro e;have:=h.out;rw[e]at this;simp at this;omega
   obtain⟨b,x,rfl,hb,A⟩:=t.resolve_left d;obtain⟨b2,m,rfl,n,j⟩:=r.resolve_left d;have c:i<g.length:=by have:=h.out;omega
   have H:=(f.cell (p:=⟨b,x+i,none⟩) hb).trans (A i _ (List.getElem?_eq_getElem c));have I:=(f.cell (p:=⟨b2,m+i,none⟩) n).trans (j i _ (List.getElem?_eq_getElem c));have C:b<wr.heap.size:=by omega
   have z:b2<wr.heap.size:=by omega
   obtain⟨s,l⟩:∃s,s=aa g[i]:=⟨_,rfl⟩;rw[<-l]at H I;clear A j t r l c d;generalize q:wr=wo at*;clear q;go_upto_region 6 with fail
   go_region;all_goals go_wp2_with fail
   all_goals
    go_roundg (k- (i+1))
    case measure=>omega
    case rel=>exact⟨i+1,rfl,by omega,by go_num,by first|exact f|exact f.drew⟩
  ·clear t r
   go_wp2_with fail
   go_ret;exact⟨rfl,f⟩
abbrev TE:=Value × Value × Value × Value × Nat
def Un(e:TE):List Value:=[e.1,e.2.1,e.2.2.1,e.2.2.2.1,.int .i64 (e.2.2.2.2:Int)]
def Ku(e:TE):List Value:=[e.1,e.2.1,e.2.2.1,e.2.2.2.1]
def jk(es:List TE):List Value:=es.flatMap Un
theorem GK(a b:List TE):jk (a++b)=jk a++jk b:=by simp[jk]
theorem xy:∀(l:List TE) (i:Nat) (e:TE) (j:Nat),l[i]? =some e->j<5->(jk l)[i*5+j]? =(Un e)[j]?
 | [],i,r,j,h,_=>by simp at h
 |a::rs,0,r,j,h,hj=>by
  simp at h;subst h;rw[Nat.zero_mul,Nat.zero_add,jk,List.flatMap_cons,List.getElem?_append_left (by simp[Un];omega)]
 |a::rs,i+1,r,j,h,hj=>by
  have:=xy rs i r j (by simpa using h) hj;have b:(Un a).length=5:=by simp[Un]
  rw[jk,List.flatMap_cons,getElem?_append_right (by rw[b];omega),b,show(i+1)*5+j- 5=i*5+j by omega];exact this
abbrev VQ(i:Nat):Value:=.string (aa (Qn i))
def Vw(w:World)(base i:Nat)(v:Value):Prop:=∃n,n<=2000/\qA w base (VQ i) v n
theorem Vw.all{w:World}{a i:Nat}{v:Value}(h:Vw w a i v):Nh w v (Qn i):=by
 obtain⟨n,f,h⟩:=h;have c:=h;rcases h.2 with⟨rfl,rfl⟩|⟨g,cap,b,rfl,_,e,_⟩
 ·exact⟨none,0,0,rfl,by omega,.inl rfl⟩
 ·refine⟨_,n,cap,rfl,by omega,.inr ⟨g,0,rfl,af e,λi d=> ?_⟩⟩;have:=World.ownsRow.cellAt c i (by omega);rw[Nat.zero_add,this,getElem?_replicate,if_pos d]
structure Hw(w:World)(base i:Nat)(e:TE):Prop where
 num:e.2.2.2.2=i
 all:∀u∈Ku e,Vw w base i u
structure nQ(w:World)(wb:Nat)(g0 g1 g2:Value)(es:List TE):Prop where
 row:∃to' tn tc,w.heap[wb]? =some (.cells #[g0,g1,g2,.slice none 0 0,.slice none 0 0,.slice to' tn tc,.slice none 0 0,.slice none 0 0] 40 (0,0))/\w.ownsRow (wb+1) 82 5 (.slice to' tn tc) es.length (jk es)
 each:∀(i:Nat) (e:TE),es[i]? =some e->Hw w (wb+1) i e
theorem Hw.move{w x:World}{a i:Nat}{e:TE}(h:Hw w a i e)(f:∀u∈Ku e,∀g,u.ownBlock=some g->x.heap[g]? =w.heap[g]?):Hw x a i e:=
 ⟨h.num,λu b=>by obtain⟨n,c,d⟩:=h.all u b;exact⟨n,c,d.ah (f u b)⟩⟩
theorem Hw.lt{w:World}{a i:Nat}{e:TE}(h:Hw w a i e){u:Value}(j:u∈Ku e){g:Nat}(c:u.ownBlock=some g):a<=g/\g<w.heap.size/\∃b,w.heap[g]? =some (.cells b 9 (0,0)):=by
 obtain⟨n,_,d⟩:=h.all u j;refine⟨(World.ownsRow.lt d g c).1,(World.ownsRow.lt d g c).2, ?_⟩;rcases d.2 with⟨rfl,_⟩|⟨k,cap,b,rfl,_,f,_⟩
 ·cases c
 ·cases c;exact⟨b,f⟩
theorem nQ.ah{w x:World}{wb:Nat}{d g1 f:Value}{c:List TE}(h:nQ w wb d g1 f c)(hb:Below w.heap.size w x):nQ x wb d g1 f c:=by
 obtain⟨b,o,n,j,k⟩:=h.row;exact⟨⟨b,o,n,(hb.block wb (af j)).trans j,aA k λg a=>hb.block g (k.lt g a).2⟩,λi e l=>(h.each i e l).move λu m g a=>hb.block g ((h.each i e l).lt m a).2.1⟩
theorem fe{w x:World}{g:Nat}{o:Obj}(hb:Below w.heap.size w x)(h:w.heap[g]? =some o):x.heap[g]? =some o:=(hb.block g (by rcases lt_or_ge g w.heap.size with h'|h';exact h';rw[Array.getElem?_eq_none h']at h;cases h)).trans h
theorem pK{x:World}{b:Nat}{a0 a1 a2 a3 a4:Value}{T:TypeId}(h:x.heap[b]? =some (.cells #[a0,a1,a2,a3,a4] T (0,0))):x.cell? ⟨b,0,none⟩=some a0/\x.cell? ⟨b,1,none⟩=some a1/\x.cell? ⟨b,2,none⟩=some a2/\x.cell? ⟨b,3,none⟩=some a3/\x.cell? ⟨b,4,none⟩=some a4:=by
 simp[World.cell?,h]
theorem yC(w:World)(wb:Nat)(g0 g1 g2:Value)(f:List TE)(h:nQ w wb g0 g1 g2 f)(a5:f.length<=16000000):Calls prog 9 #[.pointer (some ⟨wb,3,none⟩)] w λe w'=>e=.returned (.bool true)/\Below w.heap.size w w':=by
 obtain⟨G,tn,tc,d,l⟩:=h.row;have t:=af d;have y3:w.cell? ⟨wb,3,none⟩=some (.slice none 0 0):=(ag d).trans rfl;have y4:w.cell? ⟨wb,4,none⟩=some (.slice none 0 0):=(ag d).trans rfl;have y5:w.cell? ⟨wb,5,none⟩=some (.slice G tn tc):=(ag d).trans rfl;have y6:w.cell? ⟨wb,6,none⟩=some (.slice none 0 0):=(ag d).trans rfl;have y7:w.cell? ⟨wb,7,none⟩=some (.slice none 0 0):=(ag d).trans rfl;have s:tn=f.length/\(0<f.length->∃g,G=some ⟨g,0,none⟩/\g<w.heap.size):=by
  rcases l.2 with⟨e,h0⟩|⟨g,cap,Q,e,_,hr,_⟩
  ·cases e;exact⟨h0.symm,λh=>by omega⟩
  ·cases e;exact⟨rfl,λ_=>⟨g,rfl,af hr⟩⟩
 obtain⟨rfl,C⟩:=s;have HE:Hid (∀(i:Nat) (e:TE),f[i]? =some e->Hw w (wb+1) i e):=h.each;have q:Hid _:=l;clear h d l;go_enter Tryz.func9,Tryz.ntmps9
 go_wp2_with fail
 go_loopw [3,4] (λo m wx=>o=.bool true/\m=.int .i64 0/\wx=w) (λ_ _ _=>0)
 case atStart=>exact⟨rfl,rfl,rfl⟩
 case round=>
  obtain⟨rfl,rfl,X⟩:=hrel
  cases X
  go_wp2_with fail
  go_loopw [3,6] (λo m wx=>o=.bool true/\m=.int .i64 0/\wx=w) (λ_ _ _=>0)
  case atStart=>exact⟨rfl,rfl,rfl⟩
  case round=>
   obtain⟨rfl,rfl,Y⟩:=hrel
   cases Y
   go_wp2_with fail
   go_loopg [3,8] f.length (λgk o m wx=>∃i:Nat,gk=f.length- i/\i<=f.length/\o=.bool true/\m=.int .i64 i/\Below w.heap.size w wx)
   case atStart=>exact⟨0,rfl,zero_le _,rfl,rfl,refl _ _⟩
   case round=>
    obtain⟨i,S,hi,rfl,rfl,r⟩:=hrel;subst S;have hs:=r.size;have x5:=(r.cell (p:=⟨wb,5,none⟩) t).trans y5;have x6:=(r.cell (p:=⟨wb,6,none⟩) t).trans y6;have x7:=(r.cell (p:=⟨wb,7,none⟩) t).trans y7;have a7:wb<wr.heap.size:=by omega
    clear y3 y4 y5 y6 y7;generalize Z:wr=wo at*;clear Z;by_cases V:i<f.length
    ·obtain⟨g,rfl,T⟩:=C (by omega);obtain⟨⟨v0,v1,v2,v3,k⟩,R⟩:∃e,f[i]? =some e:=⟨_,List.getElem?_eq_getElem V⟩;have H:=HE.out i _ R;have U:k=i:=H.num;subst U;have z:∀j,j<5->wo.cell? ⟨g,k*5+j,none⟩=(Un (v0,v1,v2,v3,k))[j]? :=λj hj=>((r.cell (p:=⟨g,_,none⟩) T).trans (World.ownsRow.cellAt q.out _ (by omega))).trans (xy f k _ j R hj);have q0:=z 0 (by omega);have q1:=z 1 (by omega);have q2:=z 2 (by omega);have q3:=z 3 (by omega);have q4:=z 4 (by omega);simp only[Un,Nat.add_zero,List.getElem?_cons_zero,List.getElem?_cons_succ]at q0 q1 q2 q3 q4;have a6:g<wo.heap.size:=by omega
     have A:∀u∈ [v0,v1,v2,v3],∀y:World,Below w.heap.size w y->Calls prog 17 #[u,.int .i64 (k:Int)] y λe w'=>e=.returned (.bool true)/\Below y.heap.size y w':=λu W y hy=>Cg y u k (by omega) ((H.all u W).all.ah hy);have H0:=A v0 (by simp);have H1:=A v1 (by simp);have H2:=A v2 (by simp);have H3:=A v3 (by simp);have B:∀u∈ [v0,v1,v2,v3],∃a b c,u=.slice a b c:=λu W=>by
      obtain⟨n,_,h2⟩:=H.all u W;rcases h2.2 with⟨rfl,_⟩|⟨g',cap,Q,rfl,_,hr,_⟩<;>exact⟨_,_,_,rfl⟩
     obtain⟨p0,n0,M,rfl⟩:=B v0 (by simp);obtain⟨p1,n1,N,rfl⟩:=B v1 (by simp);obtain⟨p2,n2,O,rfl⟩:=B v2 (by simp);obtain⟨p3,n3,P,rfl⟩:=B v3 (by simp);clear z A H R B;have kb:=heap_alloc_new wo (.cells #[.slice p0 n0 M,.slice p1 n1 N,.slice p2 n2 O,.slice p3 n3 P,.int .i64 (k:Int)] 82);have B0:=(ae wo (.cells #[.slice p0 n0 M,.slice p1 n1 N,.slice p2 n2 O,.slice p3 n3 P,.int .i64 (k:Int)] 82));have I:Below w.heap.size w (wo.alloc (.cells #[.slice p0 n0 M,.slice p1 n1 N,.slice p2 n2 O,.slice p3 n3 P,.int .i64 (k:Int)] 82)):=r.trans (B0.mono hs);obtain⟨z0,z1,z2,z3,z4⟩:=pK kb;have lb:=af kb
     go_wp2_with(first
      |(go_at_call 17;refine(H0 _ I).mono ?_;clear H0;rintro e w2 ⟨rfl,hb2⟩;have v:=fe hb2 kb;have J:=I.trans (hb2.mono I.size);obtain⟨a0,a1,a2,a3,a4⟩:=pK v;have a8:=af v)
      |(go_at_call 17;refine(H1 _ J).mono ?_;clear H1;rintro e w3 ⟨rfl,hb3⟩;have x:=fe hb3 v;have K:=J.trans (hb3.mono J.size);obtain⟨d0,d1,d2,d3,d4⟩:=pK x;have a9:=af x)
      |(go_at_call 17;refine(H2 _ K).mono ?_;clear H2;rintro e w4 ⟨rfl,hb4⟩;have F:=fe hb4 x;have L:=K.trans (hb4.mono K.size);obtain⟨e0,e1,e2,e3,e4⟩:=pK F;have b0:=af F)
      |(go_at_call 17;refine(H3 _ L).mono ?_;clear H3;rintro e w5 ⟨rfl,hb5⟩;have B5:=L.trans (hb5.mono L.size)))
     go_roundg (f.length- (k+1))
     case measure=>omega
     case rel=>exact⟨k+1,rfl,by omega,rfl,by go_num,B5⟩
    ·clear HE q C
     go_wp2_with fail
     go_loopw [3,10] (λo m wx=>o=.bool true/\m=.int .i64 0/\wx=wo) (λ_ _ _=>0)
     case atStart=>exact⟨rfl,rfl,rfl⟩
     case round=>
      obtain⟨rfl,rfl,D⟩:=hrel
      cases D
      go_wp2_with fail
      go_loopw [3,12] (λo m wx=>o=.bool true/\m=.int .i64 0/\wx=wo) (λ_ _ _=>0)
      case atStart=>exact⟨rfl,rfl,rfl⟩
      case round=>
       obtain⟨rfl,rfl,E⟩:=hrel
       cases E
       go_wp2_with fail
       go_ret;exact⟨rfl,r⟩
structure AJ(w2:World)(wb n0:Nat)(m l v1 v2 v3:Value)(k0 k1 k2 k3:Nat)(wx:World):Prop where
 box:wx.heap[w2.heap.size]? =some (.cells #[l,v1,v2,v3,.int .i64 (n0:Int)] 82 (0,0))
 wl:wb<w2.heap.size
 ll:∀g,l.ownBlock=some g->g<w2.heap.size
 m0:qA wx (wb+1) m l k0
 m1:qA wx (wb+1) m v1 k1
 m2:qA wx (wb+1) m v2 k2
 m3:qA wx (wb+1) m v3 k3
 low:Below (wb+1) w2 wx
 ng:∀g,g<w2.heap.size->l.ownBlock≠some g->wx.heap[g]? =w2.heap[g]?
 s1:∀g,v1.ownBlock=some g->l.ownBlock=some g\/w2.heap.size<g
 s2:∀g,v2.ownBlock=some g->l.ownBlock=some g\/w2.heap.size<g
 s3:∀g,v3.ownBlock=some g->l.ownBlock=some g\/w2.heap.size<g
section
variable {w2 : World} {wb n0 : Nat} {m l v1 v2 v3 : Value} {k0 k1 k2 k3 : Nat} {wx y w3 : World}
theorem AJ.size(h:AJ w2 wb n0 m l v1 v2 v3 k0 k1 k2 k3 wx):w2.heap.size<wx.heap.size:=af h.box
theorem AJ.ah(h:AJ w2 wb n0 m l v1 v2 v3 k0 k1 k2 k3 wx)(hb:Below wx.heap.size wx y):AJ w2 wb n0 m l v1 v2 v3 k0 k1 k2 k3 y:=by
 have e:=h.size;have a:∀ {v:Value} {k:Nat},qA wx (wb+1) m v k->qA y (wb+1) m v k:=λc=>c.ah λg b=>hb.block g (World.ownsRow.lt c g b).2;exact⟨(hb.block _ e).trans h.box,h.wl,h.ll,a h.m0,a h.m1,a h.m2,a h.m3,h.low.trans (hb.mono (by have:=h.wl;omega)),λg b d=>(hb.block g (by omega)).trans (h.ng g b d),h.s1,h.s2,h.s3⟩
theorem AJ.VC(h:AJ w2 wb n0 m l v1 v2 v3 k0 k1 k2 k3 y){v:Value}{k:Nat}(p:qA y (wb+1) m v k)(a:∀g,v.ownBlock=some g->l.ownBlock=some g\/w2.heap.size<g)(c:y.grownBy w3 v.ownBlock)(b:∀u i,qA y (wb+1) m u i->qA w3 (wb+1) m u i):AJ w2 wb n0 m l v1 v2 v3 k0 k1 k2 k3 w3:=by
 have o:=h.size;have r:=h.wl;have d:v.ownBlock≠some w2.heap.size:=λe=>by
  rcases a _ e with h'|h'
  ·have:=h.ll _ h';omega
  ·omega
 refine⟨(c.block _ o (λe=>d e.symm)).trans h.box,r,h.ll,b _ _ h.m0,b _ _ h.m1,b _ _ h.m2,b _ _ h.m3,h.low.grown c (by omega) (λq n=>(World.ownsRow.lt p q n).1),λg j f=>(c.block g (by omega) (λe=> ?_)).trans (h.ng g j f),h.s1,h.s2,h.s3⟩;rcases a g e.symm with h'|h'
 ·exact f h'
 ·omega
theorem AJ.far(h:AJ w2 wb n0 m l v1 v2 v3 k0 k1 k2 k3 y){v v':Value}(c:∀g,v.ownBlock=some g->l.ownBlock=some g\/w2.heap.size<g)(a:v'.ownBlock=v.ownBlock\/v'.ownBlock=some y.heap.size):∀g,v'.ownBlock=some g->l.ownBlock=some g\/w2.heap.size<g:=λg b=>by
 rcases a with e|e
 ·exact c g (by rw[<-e];exact b)
 ·rw[e]at b;cases b;exact .inr h.size
theorem AJ.off(h:AJ w2 wb n0 m l v1 v2 v3 k0 k1 k2 k3 wx){v:Value}(a:∀g,v.ownBlock=some g->l.ownBlock=some g\/w2.heap.size<g):∀g,v.ownBlock=some g->g≠w2.heap.size:=λg b e=>by
 rcases a g b with h'|h'
 ·have:=h.ll _ h';omega
 ·omega
theorem AJ.set(h:AJ w2 wb n0 m l v1 v2 v3 k0 k1 k2 k3 wx)(j:Nat)(v:Value){c d e:Value}{q r s:Nat}(a:(wx.setCell ⟨w2.heap.size,j,none⟩ v).heap[w2.heap.size]? =some (.cells #[l,c,d,e,.int .i64 (n0:Int)] 82 (0,0)))
  (f:qA wx (wb+1) m c q) (i:qA wx (wb+1) m d r) (t:qA wx (wb+1) m e s) (s1:∀g,c.ownBlock=some g->l.ownBlock=some g\/w2.heap.size<g) (s2:∀g,d.ownBlock=some g->l.ownBlock=some g\/w2.heap.size<g) (s3:∀g,e.ownBlock=some g->l.ownBlock=some g\/w2.heap.size<g):AJ w2 wb n0 m l c d e k0 q r s (wx.setCell ⟨w2.heap.size,j,none⟩ v):=by
 have w:=h.wl;have b:∀ {v':Value} {k:Nat},qA wx (wb+1) m v' k->(∀g,v'.ownBlock=some g->g≠w2.heap.size)->qA (wx.setCell ⟨w2.heap.size,j,none⟩ v) (wb+1) m v' k:=λu o=>u.ah λg n=>heap_setCell _ _ _ _ (o g n);exact⟨a,w,h.ll,b h.m0 (h.off λg n=>.inl n),b f (h.off s1),b i (h.off s2),b t (h.off s3),h.low.setCell (p:=⟨w2.heap.size,j,none⟩) (by show wb+1<=w2.heap.size;omega) _,λg f i=>(heap_setCell _ _ _ _ (by show g≠w2.heap.size;omega)).trans (h.ng g f i),s1,s2,s3⟩
end
theorem TY:(Tryz.prog.info? 82).map (λi=>(i.zero,i.size,i.bytes))=some (some (.agg #[.slice none 0 0,.slice none 0 0,.slice none 0 0,.slice none 0 0,.int .i64 0]),5,104):=by kernel_rfl
def Sg(w:World)(wb:Nat)(g0 g1 g2:Value)(es:List TE)(l:Value)(w':World):Prop:=∃e':TE,nQ w' wb g0 g1 g2 (es++ [e'])/\(∀u∈Ku e',∀g,u.ownBlock=some g->l.ownBlock=some g\/w.heap.size<=g)/\Below wb w w'/\∀(q:Nat) (cur:Array Value) (T:TypeId) (fz:Nat × Nat),w.heap[q]? =some (.cells cur T fz)->T≠82->T≠40->l.ownBlock≠some q->w'.heap[q]? =w.heap[q]?
theorem JY(w:World)(s:ByteArray){B:Nat}(a:B=w.heap.size):∀j,j<1->(w.alloc (.cells #[.string s] 9)).cell? ((⟨B,0,none⟩:Addr).add j)=some (.string s):=λj b=>by
 subst a
 match j,b with
 |0,_=>exact news_of_block (heap_alloc_new w _) 0 _ rfl
theorem Ro(w:World)(s:ByteArray){B:Nat}(a:B=w.heap.size):∀j,j<2->(w.alloc (.cells #[.string s,.string s] 9)).cell? ((⟨B,0,none⟩:Addr).add j)=some (.string s):=λj b=>by
 subst a
 match j,b with
 |0,_=>exact news_of_block (heap_alloc_new w _) 0 _ rfl
 |1,_=>exact news_of_block (heap_alloc_new w _) 1 _ rfl
theorem qA.sl{w:World}{a:Nat}{m v:Value}{n:Nat}(h:qA w a m v n):∃b cap,v=.slice b n cap:=by
 rcases h.2 with⟨rfl,rfl⟩|⟨g,cap,c,rfl,_⟩<;>exact⟨_,_,rfl⟩
theorem Dy(s:ByteArray):(string s).oneCell'=true:=rfl
theorem qA.typed{w x:World}{a:Nat}{m v:Value}{n:Nat}(h:qA w a m v n)(e:∀(q:Nat) (b:Array Value) (T:TypeId) (d:Nat × Nat),w.heap[q]? =some (.cells b T d)->T≠82->T≠40->x.heap[q]? =w.heap[q]?):qA x a m v n:=h.ah λg c=>by
 rcases h.2 with⟨rfl,_⟩|⟨i,cap,b,rfl,_,f,_⟩
 ·cases c
 ·cases c;exact e _ _ _ _ f (by decide) (by decide)
theorem OH{w wo x w10 W1:World}{wb n n0 g7 cap7:Nat}{E g1 F:Value}{j:List TE}{l v1 v2 v3:Value}{k0 k1 k2 k3:Nat}{s:ByteArray}(hn:n<=1900)(H:k0<=n)(I:k1<=n)(J:k2<=n)(K:k3<=n)(A:j.length=n0)(hs:s=aa (Qn n0))(X:nQ w wb E g1 F j)
  (HL:∀g,l.ownBlock=some g->wb<g/\g<w.heap.size/\∃a,w.heap[g]? =some (.cells a 9 (0,0))) (Y:∀g,g<w.heap.size->l.ownBlock≠some g->wo.heap[g]? =w.heap[g]?) (a0:w.heap.size<=wo.heap.size) (y:Below (wb+1) w wo) (z:∀e∈j,∀u∈Ku e,∀g,u.ownBlock=some g->l.ownBlock≠some g)
  (b:AJ wo wb n0 (.string s) l v1 v2 v3 k0 k1 k2 k3 x) {t:Option Addr} {M:Nat} (hO:x.heap[wb]? =some (.cells #[E,g1,F,.slice none 0 0,.slice none 0 0,.slice t n0 M,.slice none 0 0,.slice none 0 0] 40 (0,0))) (own:x.ownsRow (wb+1) 82 5 (.slice t n0 M) n0 (jk j))
  (hW:Below x.heap.size x W1) (p:W1.grownBy w10 (slice t n0 M).ownBlock) (r:w10.ownsRow (wb+1) 82 5 (.slice (some ⟨g7,0,none⟩) (n0+1) cap7) (n0+1) (jk j++ [l,v1,v2,v3,.int .i64 (n0:Int)])):
  Sg w wb E g1 F j l (w10.setCell ⟨wb,5,none⟩ (.slice (some ⟨g7,0,none⟩) (n0+1) cap7)):=by
 obtain⟨A0,U,V,W,N⟩:=xY (k:=5) (B:=wb) hO own hW p r (.slice (some ⟨g7,0,none⟩) (n0+1) cap7) (Nat.le_refl _);have C:∀ {u:Value} {k:Nat},qA x (wb+1) (.string s) u k->k<=n->Vw (w10.setCell ⟨wb,5,none⟩ (.slice (some ⟨g7,0,none⟩) (n0+1) cap7)) (wb+1) n0 u:=fun {u k} h hk=>⟨k,by omega,by show qA _ _ (.string (aa (Qn n0))) _ _;rw[<-hs];exact h.typed N⟩;have d:∀(q:Nat) (a:Array Value) (T:TypeId) (D:Nat × Nat),w.heap[q]? =some (.cells a T D)->T≠82->T≠40->l.ownBlock≠some q->(w10.setCell ⟨wb,5,none⟩ (.slice (some ⟨g7,0,none⟩) (n0+1) cap7)).heap[q]? =w.heap[q]? :=λq a T D R Z h2 Q=>by
  have L:=af R;have O:=Y q L Q;have P:=b.ng q (by omega) Q;exact(N q a T D ((P.trans O).trans R) Z h2).trans (P.trans O)
 refine⟨(l,v1,v2,v3,n0),⟨⟨_,_,_,U, ?_⟩,λi e c=> ?_⟩,λu f g o=> ?_,((y.mono (by omega)).trans (b.low.mono (by omega))).trans W,d⟩
 ·rw[GK,length_append,A];exact V
 ·rcases lt_or_ge i j.length with h|h
  ·rw[List.getElem?_append_left h]at c;have S:=X.each i e c;refine S.move λu f g o=> ?_;obtain⟨_,_,a,hr⟩:=S.lt f o;exact d g a _ _ hr (by decide) (by decide) (z e (List.mem_of_getElem? c) u f g o)
  ·rw[getElem?_append_right h]at c;have G:i=n0:=by
    rcases Nat.eq_or_lt_of_le h with h'|h'
    ·omega
    ·rw[List.getElem?_eq_none (by simp;omega)]at c;cases c
   subst G;rw[A,sub_self]at c
   cases c;refine⟨rfl,λu f=> ?_⟩;simp only[Ku,mem_cons,not_mem_nil,or_false]at f;rcases f with rfl|rfl|rfl|rfl
   ·exact C b.m0 H
   ·exact C b.m1 I
   ·exact C b.m2 J
   ·exact C b.m3 K
 ·simp only[Ku,mem_cons,not_mem_nil,or_false]at f;have m:∀ {v:Value},(∀g,v.ownBlock=some g->l.ownBlock=some g\/wo.heap.size<g)->v.ownBlock=some g->l.ownBlock=some g\/w.heap.size<=g:=λh e=>(h g e).imp id (by omega);rcases f with rfl|rfl|rfl|rfl
  ·exact .inl o
  ·exact m b.s1 o
  ·exact m b.s2 o
  ·exact m b.s3 o
theorem NJ(w:World)(o:Obj):(w.alloc o).drew.heap[w.heap.size]? =some o:=heap_alloc_new w o
theorem si(w:World)(wb:Nat)(g0 g1 g2:Value)(A:List TE)(h:nQ w wb g0 g1 g2 A)(h2:A.length<=4000000)(lo:Option Addr)(nn j:Nat)(ns:List Bs)(hl:w.ownsRow (wb+1) 9 1 (.slice lo nn j) ns.length (bD ns))(h4:ns.length<=1000)
  (R:∀e∈A,∀u∈Ku e,∀g,u.ownBlock=some g->(slice lo nn j).ownBlock≠some g):
  Calls prog 34 #[.pointer (some ⟨wb,3,none⟩),.slice lo nn j] w λe w'=>e=.returned (.tuple #[])/\Sg w wb g0 g1 g2 A (.slice lo nn j) w':=by
 obtain⟨y,tn,tc,J,E⟩:=h.row;have c2:=af J;have y5:w.cell? ⟨wb,5,none⟩=some (.slice y tn tc):=(ag J).trans rfl;have e5:tn=A.length:=by
  rcases E.2 with⟨e,h0⟩|⟨g,cap,b,e,_,hr,_⟩
  ·cases e;exact h0.symm
  ·cases e;rfl
 subst e5;have e3:nn=ns.length:=by
  rcases hl.2 with⟨e,h0⟩|⟨g,cap,b,e,_,hr,_⟩
  ·cases e;exact h0.symm
  ·cases e;rfl
 subst e3;have HM:=uC A.length (by omega) w;obtain⟨s,hs⟩:∃s,s=aa (Qn A.length):=⟨_,rfl⟩;rw[<-hs]at HM;have HS:Hid _:=hs;have HH:Hid _:=h;obtain⟨i0,a0,a6,a7,a8⟩:=info_parts CJ;obtain⟨i1,hj,c9,e0,e1⟩:=info_parts TY;clear hs h;go_enter Tryz.func34,Tryz.ntmps34
 go_wp2_with(go_at_call 53;refine HM.mono ?_)
 clear HM;rintro e w1 ⟨rfl,t⟩;have b8:=aA hl (x:=w1) λg a=>t.block g (hl.lt g a).2;have e4:=t.size
 go_wp2_with fail
 go_loopg [6] ns.length (λgk iv wr=>∃i:Nat,gk=ns.length- i/\i<=ns.length/\iv=.int .i64 i/\wr.ownsRow (wb+1) 9 1 (.slice lo ns.length j) ns.length (replicate i (.string s)++(bD ns).drop i)/\(∀g,(slice lo ns.length j).ownBlock≠some g->wr.heap[g]? =w1.heap[g]?)/\Below (wb+1) w1 wr/\wr.heap.size=w1.heap.size)
 case atStart=>exact⟨0,rfl,zero_le _,rfl,by simpa using b8,λ_ _=>rfl,refl _ _,rfl⟩
 case round=>
  obtain⟨i,Z,hi,rfl,f,Y,D,a4⟩:=hrel;subst Z;by_cases a1:i<ns.length
  ·obtain⟨g,cap,e,c6,h3⟩:=f.form (by omega)
   cases e;have c0:=f.cellAt i (by omega);have c7:(replicate i (string s)++(bD ns).drop i)[i]? =some (.string (aa ns[i])):=by
    rw[getElem?_append_right (by simp),length_replicate,sub_self,List.getElem?_drop,Nat.add_zero,bD,List.getElem?_map,List.getElem?_eq_getElem a1];rfl
   rw[c7]at c0;have f0:=f.frozenAt i;have F:=f.stored i (.string s);have c1:(replicate i (string s)++(bD ns).drop i).set i (.string s)=replicate (i+1) (.string s)++(bD ns).drop (i+1):=by
    rw[List.set_append_right _ _ (by simp),length_replicate,sub_self,List.drop_eq_getElem_cons (show i<(bD ns).length by simp[bD];exact a1),List.set_cons_zero,List.replicate_succ',List.append_assoc];rfl
   go_wp2_with fail
   go_roundg (ns.length- (i+1))
   case measure=>omega
   case rel=>
    refine⟨i+1,rfl,by omega,by go_num, ?_,λq hq=> ?_,D.setCell (p:=⟨g,i,none⟩) c6 _,by simpa using a4⟩
    ·have:=F.1;rw[c1]at this;exact this
    ·rw[heap_setCell _ _ _ _ (by intro e;exact hq (by rw[show q=g from e];rfl))];exact Y q hq
  ·have c8:i=ns.length:=by omega
   subst c8;rw[List.drop_of_length_le (by simp[bD]),List.append_nil]at f;generalize e7:wr=wo at*;clear e7;have c3:wo.heap.size=w1.heap.size:=a4;have a2:∀g,(slice lo ns.length j).ownBlock=some g->wb<g/\g<w.heap.size/\∃b,w.heap[g]? =some (.cells b 9 (0,0)):=λg a=>by
    refine⟨(hl.lt g a).1,(hl.lt g a).2, ?_⟩;rcases hl.2 with⟨e,_⟩|⟨g',cap,b,e,_,hr,_⟩
    ·rw[e]at a;cases a
    ·rw[e]at a;cases a;exact⟨b,hr⟩
   have hK:∀g,g<w.heap.size->(slice lo ns.length j).ownBlock≠some g->wo.heap[g]? =w.heap[g]? :=λg a e2=>(Y g e2).trans (t.block g a);have P:Below (wb+1) w wo:=(t.mono (by omega)).trans D;have S0:AJ wo wb A.length (.string s) (.slice lo ns.length j) (.slice none 0 0) (.slice none 0 0) (.slice none 0 0) ns.length 0 0 0 (wo.alloc (.cells #[.slice lo ns.length j,.slice none 0 0,.slice none 0 0,.slice none 0 0,.int .i64 (A.length:Int)] 82)):=
    ⟨heap_alloc_new wo _,by omega,λg a=>by have:=a2 g a;omega,World.ownsRow.alloc f _,ownsRow_nil _ _ _ _,ownsRow_nil _ _ _ _,ownsRow_nil _ _ _ _,(refl _ _).alloc (by omega) _,λg a _=>heap_alloc _ _ _ a,λg a=>(by cases a),λg a=>(by cases a),λg a=>(by cases a)⟩
   have S:w.heap.size<=wo.heap.size:=by omega
   have c5:wb+1<=wo.heap.size:=by omega
   have HL:Hid (∀g,(slice lo ns.length j).ownBlock=some g->wb<g/\g<w.heap.size/\∃b,w.heap[g]? =some (.cells b 9 (0,0))):=a2;have HK:Hid (∀g,g<w.heap.size->(slice lo ns.length j).ownBlock≠some g->wo.heap[g]? =w.heap[g]?):=hK;have b0:Hid _:=P;have N:Hid _:=E;have H:Hid _:=J;have b1:Hid _:=R;clear a2 hK P E J R hl b8 f Y D t y5 c2 a4 e4 c3;generalize b9:ns.length=n at*;generalize b7:A.length=n0 at*;go_upto_region 7 with fail
   go_cut [32] (λg3 wx=>AJ wo wb n0 (.string s) (.slice lo n j) g3 (.slice none 0 0) (.slice none 0 0) n (n+1) 0 0 wx)
   case first=>
    have l:=S0.ah (ae _ (.cells #[.string s] 9))
    go_wp2_with(at_builtin;refine iZ _ rfl (.tmp 29) (.tmp 31) rfl (wb+1) a0 a6 a7 a8 rfl (Dy s) (.slice lo n j) n rfl l.m0 ⟨wo.heap.size+1,0,none⟩ 1 1 rfl (by decide) (JY _ s (by simp)) (by omega) (by simp;omega) ?_;intro v' w3 Q c C d;have k:=l.VC l.m0 (λg a=>.inl a) c d;have hF:=l.far (v:=.slice lo n j) (v':=v') (λg a=>.inl a) C;obtain⟨b4,O,rfl⟩:=Q.sl;have m:=k.box;have lb:=af m;obtain⟨z0,z1,z2,z3,z4⟩:=pK m;have zf:w3.frozen? ⟨wo.heap.size,1,none⟩=false:=by simp[frozen?,m])
    go_meet;exact k.set 1 _ (by simp[setCell,Array.getElem?_modify,m]) Q k.m2 k.m3 hF k.s2 k.s3
   case rest=>
    generalize e8:wc=wx at*;clear e8 S0;have hA:=hcut;clear hcut;have h1:=hA.size;obtain⟨W,V,rfl⟩:=hA.m1.sl;go_upto_region 8 with fail
    go_cut [38] (λg4 wy=>AJ wo wb n0 (.string s) (.slice lo n j) (.slice W (n+1) V) g4 (.slice none 0 0) n (n+1) (n+2) 0 wy)
    case first=>
     have l:=hA.ah (ae _ (.cells #[.string s,.string s] 9))
     go_wp2_with(at_builtin;refine iZ _ rfl (.tmp 34) (.tmp 37) rfl (wb+1) a0 a6 a7 a8 rfl (Dy s) (.slice lo n j) n rfl l.m0 ⟨wx.heap.size,0,none⟩ 2 2 rfl (by decide) (Ro _ s rfl) (by omega) (by simp;omega) ?_;intro v' w3 Q c C d;have k:=l.VC l.m0 (λg a=>.inl a) c d;have hF:=l.far (v:=.slice lo n j) (v':=v') (λg a=>.inl a) C;obtain⟨b4,O,rfl⟩:=Q.sl;have m:=k.box;have lb:=af m;obtain⟨z0,z1,z2,z3,z4⟩:=pK m;have zf:w3.frozen? ⟨wo.heap.size,2,none⟩=false:=by simp[frozen?,m])
     go_meet;exact k.set 2 _ (by simp[setCell,Array.getElem?_modify,m]) k.m1 Q k.m3 k.s1 hF k.s3
    case rest=>
     generalize e9:wc=wy at*;clear e9 hA;have G:=hcut;clear hcut;have t:=G.size;obtain⟨b5,b2,rfl⟩:=G.m2.sl;have m:=G.box;obtain⟨z0,z1,z2,z3,z4⟩:=pK m;have zf:wy.frozen? ⟨wo.heap.size,3,none⟩=false:=by simp[frozen?,m]
     have hC:=G.set 3 (.slice lo n j) (by simp[setCell,Array.getElem?_modify,m]) G.m1 G.m2 G.m0 G.s1 G.s2 (λg a=>.inl a);clear G m
     go_wp2_with fail
     go_loopg [8] 64 (λgk iv wr=>∃(i:Nat) (v3:Value),gk=64- i/\i<=64/\iv=.int .i64 i/\AJ wo wb n0 (.string s) (.slice lo n j) (.slice W (n+1) V) (.slice b5 (n+2) b2) v3 n (n+1) (n+2) (n+i) wr)
     case atStart=>exact⟨0,_,rfl,by omega,rfl,hC⟩
     case round=>
      clear hC z0 z1 z2 z3 z4 zf;obtain⟨i,v3,Z,hi,rfl,X⟩:=hrel;subst Z;generalize a5:wr=wq at*;clear a5;have hq:=X.size;obtain⟨b6,b3,rfl⟩:=X.m3.sl;have m:=X.box;obtain⟨z0,z1,z2,z3,z4⟩:=pK m;by_cases a1:i<64
      ·have l:=X.ah (ae _ (.cells #[.string s] 9))
       go_wp2_with(at_builtin;refine iZ _ rfl (.tmp 47) (.tmp 49) rfl (wb+1) a0 a6 a7 a8 rfl (Dy s) (.slice b6 (n+i) b3) (n+i) rfl l.m3 ⟨wq.heap.size,0,none⟩ 1 1 rfl (by decide) (JY _ s rfl) (by omega) (by simp;omega) ?_;intro v' w3 Q c C d;have k:=l.VC l.m3 l.s3 c d;have hF:=l.far (v':=v') l.s3 C;obtain⟨b4,O,rfl⟩:=Q.sl;have K:=k.box;have lb:=af K;obtain⟨x0,x1,x2,x3,x4⟩:=pK K;have zf:w3.frozen? ⟨wo.heap.size,3,none⟩=false:=by simp[frozen?,K])
       go_roundg (64- (i+1))
       case measure=>omega
       case rel=>exact⟨i+1,_,rfl,by omega,by go_num,k.set 3 _ (by simp[setCell,Array.getElem?_modify,K]) k.m1 k.m2 Q k.s1 k.s2 hF⟩
      ·obtain rfl:i=64:=by omega
       have c2:wb<w.heap.size:=af H.out;have a9:∀(g:Nat) (b:Array Value) (T:TypeId) (I:Nat × Nat),w.heap[g]? =some (.cells b T I)->T≠9->(slice lo n j).ownBlock≠some g:=λg b T I a hT e=>by
        obtain⟨_,_,g5,hr⟩:=HL.out g e;rw[hr]at a;cases a;exact hT rfl
       have F:∀(g:Nat) (b:Array Value) (T:TypeId) (I:Nat × Nat),w.heap[g]? =some (.cells b T I)->T≠9->wq.heap[g]? =w.heap[g]? :=λg b T I a hT=>
        (X.ng g (Nat.lt_of_lt_of_le (af a) S) (a9 g b T I a hT)).trans (HK.out g (af a) (a9 g b T I a hT))
       have hO:=(F _ _ _ _ H.out (by decide)).trans H.out;have own:=dK N.out λq b I hq=>F q b _ I hq (by decide);have x5:wq.cell? ⟨wb,5,none⟩=some (.slice y n0 tc):=(ag hO).trans rfl;have a5:=af hO;have c4:Hid _:=hO;have U:∀o:Obj,(wq.alloc o).drew.ownsRow (wb+1) 82 5 (.slice y n0 tc) n0 (jk A):=λo=>World.ownsRow.drew (World.ownsRow.alloc own o);have e6:(slice y n0 tc).ownBlock≠some wb:=λe=>by have:=(own.lt _ e).1;omega
       have M:=fun {z:World} {g7 B:Nat} (L:Obj)=>OH (w10:=z) (g7:=g7) (cap7:=B) (n:=n+64) (W1:=(wq.alloc L).drew) (by omega) (by omega) (by omega) (by omega) (by omega) b7 HS.out HH.out HL.out HK.out S b0.out b1.out X hO own (ae wq L).drew;have HF:Hid _:= @M;clear M hO own F a9 H N X;go_upto_region 14 with fail
       go_region_law (refine step_append_lies _ rfl (.tmp 56) (.tmp 58) 34 rfl (wb+1) 82 i1 _ 5 104 Tryz.underlying34 hj c9 e0 e1 rfl (by decide) (.slice y n0 tc) n0 (jk A) (by simp[Act.eval]) (U _) ⟨wq.heap.size,0,none⟩ 1 1 [.slice lo n j,.slice W (n+1) V,.slice b5 (n+2) b2,.slice b6 (n+64) b3,.int .i64 (n0:Int)] (by simp[Act.eval]) rfl (news_of_block (NJ wq _)) (by intro u hu;simp only[mem_cons,not_mem_nil,or_false]at hu;rcases hu with rfl|rfl|rfl|rfl|rfl<;>rfl) (by decide) (by unfold maxLen;omega) (by omega) (by simp;omega) (wq.heap.size+1) (by simp) ?_;intro g7 B z a3 r g6 g9;have kB:z.heap[wb]? =_:=(r.block wb (by simp;omega) e6.symm).trans ((heap_alloc _ _ _ a5).trans c4.out);have g8:=af kB;have r0:z.cell? ⟨wb,5,none⟩=some (.slice y n0 tc):=(ag kB).trans rfl;have h5:z.frozen? ⟨wb,5,none⟩=false:=by simp[frozen?,kB])
       all_goals(go_wp2_with fail)
       all_goals
        go_end0
        exact⟨rfl,by rw[b9];exact HF.out _ r a3⟩
end Go.Proofs.YtdifpeaklamhnaaGreatDoor
