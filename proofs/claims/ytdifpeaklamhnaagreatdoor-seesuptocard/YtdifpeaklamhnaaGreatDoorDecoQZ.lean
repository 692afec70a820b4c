import Derived.Test.YtdifpeaklamhnaaGreatDoorTreeZ
set_option linter.unusedVariables false
set_option linter.unusedSimpArgs false
set_option maxRecDepth 100000
set_option maxHeartbeats 0
namespace Go.Proofs.YtdifpeaklamhnaaGreatDoor
open Go.Proofs.Tryz
open Go.RowKit
open List (length_cons cons_append headD_cons all_cons nil_append)
open Nat (le_refl)
open Below (heap_setCell heap_alloc refl alloc)
open World (cell? setCell)
open Value (slice)
open Addr (add)
theorem El(w:World)(c b:Nat)(h:bu w c []):
  Calls prog 102 #[.pointer (some ⟨c,0,none⟩),.int .i64 b] w λe w'=>Reads w c [] none e w':=by
 have k:=h.lt;have l:w.heap.size≠c:=by omega
 have n:jU 0 []=false:=by rfl
 have j:=h;clear h;by_cases o:b<=20
 ·go_enter Tryz.func102,Tryz.ntmps102
  go_wp2_with(first
   |(go_at_call 101;refine(yT _ _ (j.alloc _)).mono ?_;rintro e w2 ⟨rfl,hb2⟩;have a:=cu (bN w _) hb2)
   |(go_at_call 173;refine(sQ _ _ _).mono ?_;rintro e m ⟨rfl,hb3⟩;have f:=cu (dE a _) hb3;obtain⟨⟨z0,i,z2,z3⟩,f0,f1,f2,f3⟩:=bE f))
  have d:w.grownBy m (some c):=aB (aS (aB (aS (fF w _) _) (bC hb2 _)) _) (bC hb3 _);refine bodyPost_ret (v:=.tuple #[.agg #[.int .i64 0,.string ⟨#[]⟩,.bool false,.slice none 0 0],.bool false]) (by simp[results,Tryz.results102,go_sem,z0,i,z2,z3]) rfl ⟨?_,.inl ⟨rfl,rfl⟩⟩
  repeat(refine df ?_ (le_refl _) _ _)
  exact d
 ·go_enter Tryz.func102,Tryz.ntmps102
  go_wp2_with(first
   |(go_at_call 101;refine(yT _ _ (j.alloc _)).mono ?_;rintro e w2 ⟨rfl,hb2⟩;have a:=cu (bN w _) hb2;have g:=ai a;obtain⟨⟨z0,i,z2,z3⟩,f0,f1,f2,f3⟩:=bE a))
  have d:w.grownBy w2 (some c):=aB (aS (fF w _) _) (bC hb2 _);refine bodyPost_ret (v:=.tuple #[.agg #[.int .i64 0,.string ⟨#[]⟩,.bool false,.slice none 0 0],.bool false]) (by simp[results,Tryz.results102,go_sem,z0,i,z2,z3,g]) rfl ⟨?_,.inl ⟨rfl,rfl⟩⟩;refine aS ?_ _
  repeat(refine df ?_ (le_refl _) _ _)
  exact d
theorem wI(w:World)(d a:Nat)(t:Tk)(g:List Tk)(h:bu w d (t::g))(b:20<a\/jU t.1 t.2=false):
  Calls prog 102 #[.pointer (some ⟨d,0,none⟩),.int .i64 a] w λe w'=>Reads w d (t::g) none e w':=by
 have p:=h.lt;have f:w.heap.size≠d:=by omega
 have n:=h;clear h;by_cases r:a<=20
 ·have m:jU t.1 t.2=false:=by rcases b with h|h;omega;exact h
  have o:∀x:World,Calls prog 173 #[.agg #[.int .i64 t.1,.string (aa t.2)]] x λe w'=>e=.returned (.bool false)/\Below x.heap.size x w':=by
   intro x;rw[<-m,<-au t.2];simpa only[au]using sQ t.1 (aa t.2) x
  clear m b;go_enter Tryz.func102,Tryz.ntmps102
  go_wp2_with(first
   |(go_at_call 101;refine(kg _ _ t g (n.alloc _)).mono ?_;rintro e w2 ⟨rfl,hg2,hr2⟩;have c:=cz (bN w _) hg2 f)
   |(go_at_call 173;refine(o _).mono ?_;rintro e q ⟨rfl,hb3⟩;have j:=cu (dE c _) hb3;obtain⟨⟨z0,l,z2,z3⟩,f0,f1,f2,f3⟩:=bE j))
  have i:w.grownBy q (some d):=aB (aS (aB (aS (fF w _) _) hg2) _) (bC hb3 _);refine bodyPost_ret (v:=.tuple #[.agg #[.int .i64 0,.string ⟨#[]⟩,.bool false,.slice none 0 0],.bool false]) (by simp[results,Tryz.results102,go_sem,z0,l,z2,z3]) rfl ⟨?_,.inl ⟨rfl,rfl⟩⟩
  repeat(refine df ?_ (le_refl _) _ _)
  exact i
 ·clear b;go_enter Tryz.func102,Tryz.ntmps102
  go_wp2_with(first
   |(go_at_call 101;refine(kg _ _ t g (n.alloc _)).mono ?_;rintro e w2 ⟨rfl,hg2,hr2⟩;have c:=cz (bN w _) hg2 f;have k:=ai c;obtain⟨⟨z0,l,z2,z3⟩,f0,f1,f2,f3⟩:=bE c))
  have i:w.grownBy w2 (some d):=aB (aS (fF w _) _) hg2;refine bodyPost_ret (v:=.tuple #[.agg #[.int .i64 0,.string ⟨#[]⟩,.bool false,.slice none 0 0],.bool false]) (by simp[results,Tryz.results102,go_sem,z0,l,z2,z3,k]) rfl ⟨?_,.inl ⟨rfl,rfl⟩⟩;refine aS ?_ _
  repeat(refine df ?_ (le_refl _) _ _)
  exact i
theorem OL:(Tryz.prog.info? 96).map (λi=>(i.zero,i.size,i.bytes))=some (some (.agg #[.int .i64 0,.string ⟨#[]⟩,.bool false,.slice none 0 0]),4,56):=by kernel_rfl
def lQ(w:World)(rb:Nat):Nat:=match w.cell? ⟨rb,0,none⟩with|some (.slice _ n _)=>n|_=>0
theorem bu.lQ{w:World}{a:Nat}{b:List Tk}(h:bu w a b):lQ w a=b.length:=by
 obtain⟨v,hb,h⟩:=h;have c:w.cell? ⟨a,0,none⟩=some v:=by simp[cell?,hb]
 rcases h with⟨rfl,e,cap,rfl⟩|⟨g,d,cap,rfl,_⟩<;>simp[YtdifpeaklamhnaaGreatDoor.lQ,c]
theorem OX(o:Option (List Tr × List Tk))(a:List Tr)(x:Tr):(o.map (λp=>(x::p.1,p.2))).map (λp=>(a++p.1,p.2))=o.map (λp=>((a++ [x])++p.1,p.2)):=by
 cases o<;>simp
theorem Ih{x:World}{b:Nat}{a0 a1 a2 a3:Value}{T:TypeId}(h:x.heap[b]? =some (.cells #[a0,a1,a2,a3] T (0,0)))(v:Value):(x.setCell ⟨b,3,none⟩ v).heap[b]? =some (.cells #[a0,a1,a2,v] T (0,0)):=by
 simp[setCell,Array.getElem?_modify,h]
def Kz(g deep:Nat)(o:Option (Tr × List Tk)):Option (List Tr × List Tk):=
 match o with
 |none=>none
 |some (x,r')=>(lg g deep r').map (λp=>(x::p.1,p.2))
theorem BV(f:Nat)(hT:∀I,I<f->yt I)(w:World)(l a:Nat)(t:Tk)(A:List Tk)(h:bu w l (t::A))(hl:2*A.length+1<=f)(b8:A.length<=400)
  (hd:a<=20) (hA:jU t.1 t.2=true):
  Calls prog 102 #[.pointer (some ⟨l,0,none⟩),.int .i64 a] w λe w'=>Reads w l (t::A) ((lg f a A).map (λp=>(.mk t.1 t.2 true p.1,p.2))) e w':=by
 obtain⟨i0,hi,a9,b0,b1⟩:=info_parts OL;have a3:=h.lt;have Q:w.heap.size≠l:=by omega
 have hr:=h;clear h;have HS:∀x:World,Calls prog 173 #[.agg #[.int .i64 t.1,.string (aa t.2)]] x λe w'=>e=.returned (.bool true)/\Below x.heap.size x w':=by
  intro x;rw[<-hA,<-au t.2];simpa only[au]using sQ t.1 (aa t.2) x
 clear hA;go_enter Tryz.func102,Tryz.ntmps102
 go_wp2_with(first
  |(go_at_call 101;refine(kg _ _ t A (hr.alloc _)).mono ?_;rintro e w2 ⟨rfl,hg2,hr2⟩;have O:=cz (bN w _) hg2 Q)
  |(go_at_call 173;refine(HS _).mono ?_;rintro e C ⟨rfl,hb3⟩;have a2:=cu (dE O _) hb3;have P:=cu (bN w2 _) hb3;obtain⟨⟨y0,y1⟩,_,_⟩:=NV P))
 have b9:=ai O;have c6:=ai P;have G3:w.grownBy C (some l):=aB (aS (aB (aS (fF w _) _) hg2) _) (bC hb3 _);have R3:bu C l A:=(hr2.alloc _).below hb3;clear hg2 hr2 hb3 O P y0 y1 HS hr;obtain⟨Tb,b2⟩:∃Tb,Tb=C.heap.size:=⟨_,rfl⟩;go_loopw [22] (λ_ wr=>∃(I:Nat) (F:List Tr) (rest:List Tk) (M:Option Addr) (n cap:Nat) (cs:List Value),I<=f/\2*rest.length+1<=I/\F.length+rest.length<=A.length/\
   Hid (lg f a A=(lg I a rest).map (λp=>(F++p.1,p.2)))/\bu wr l rest/\w.grownBy wr (some l)/\
   wr.heap[w.heap.size]? =some (.cells #[.int .i64 0,.string ⟨#[]⟩,.bool false,.slice none 0 0] 96 (0,0))/\
   wr.heap[C.heap.size]? =some (.cells #[.int .i64 t.1,.string (aa t.2),.bool true,.slice M n cap] 96 (0,0))/\
   wr.ownsRow (C.heap.size+1) 96 4 (.slice M n cap) F.length cs/\gB wr (λg=>C.heap.size<g/\(slice M n cap).ownBlock≠some g) cs F)
  (λ_ wr=>lQ wr l)
 case atStart=>exact⟨f,[],A,none,0,0,[],le_refl _,hl,by simp,by rw[Hid];simp,R3.alloc _,aS G3 _,dE a2 _,bN C _,World.ownsRow_nil _ _ _ _,.nil⟩
 case round=>
  obtain⟨I,F,rest,M,n,cap,cs,b6,b7,a8,HO,K,J,D,E,d,T⟩:=hrel;obtain⟨g,rfl⟩:∃g,I=g+1:=⟨I- 1,by omega⟩;have a0:=ai E;have a5:=ai D;by_cases L:∃c r,rest=c::r/\c.1=2
  ·obtain⟨c,r,rfl,X⟩:=L;have U:Hid (lg f a A=some (F,r)):=by rw[Hid,HO.out,lg,if_pos X];simp
   clear HO
   go_wp2_with(go_at_call 174;refine(Im _ _ c r K X).mono ?_;rintro e w5 ⟨rfl,i,R⟩;have o:=cz D i Q;have s:=cz E i (by omega);obtain⟨⟨z0,z1,z2,z3⟩,f0,f1,f2,f3⟩:=bE o;obtain⟨⟨y0,y1,y2,y3⟩,_⟩:=bE s)
   have b5:=J.size;refine bodyPost_ret (v:=.tuple #[.agg #[.int .i64 t.1,.string (aa t.2),.bool true,.slice M n cap],.bool true]) (by simp[results,Tryz.results102,go_sem,z0,z1,z2,z3]) rfl ⟨?_,.inr ⟨_,_,_,_,_,_,.mk t.1 t.2 true F,r,by rw[U.out];rfl,by simp at a8 ⊢;omega,rfl, ?_, ?_⟩⟩
   ·repeat(refine df ?_ (le_refl _) _ _)
    exact aB J i
   ·repeat(refine bu.setCell ?_ a3 _ _)
    exact R
   ·refine .mk (cs:=cs) (T.bounded.move (λg N=> ?_) (λg N=>by have:=N.1.1;omega)) (kw (b:=C.heap.size+1) (aA d λg N=> ?_) (λ_ _=>Nat.zero_le _)) (λg N=>by have:=(d.lt g N).1;omega)
    ·have h1:=N.1.1
     repeat rw[heap_setCell _ _ _ _ (by show g≠w.heap.size;omega)]
     exact i.block g N.2 (by simp;omega)
    ·have h1:=d.lt g N
     repeat rw[heap_setCell _ _ _ _ (by show g≠w.heap.size;omega)]
     exact i.block g h1.2 (by simp;omega)
  ·have HC:∀x:World,bu x l rest->Calls prog 174 #[.pointer (some ⟨l,0,none⟩)] x λe w'=>e=.returned (.bool false)/\x=w':=by
    intro x S
    cases rest with
    |nil=>exact(Il x l S).mono λe w' h=>⟨h.1,h.2.symm⟩
    |cons c r=>exact(Lt x l c r S (λe=>L ⟨c,r,rfl,e⟩)).mono λe w' h=>⟨h.1,h.2.symm⟩
   have G:Hid (lg f a A=(Kz g a (gY g a rest)).map (λp=>(F++p.1,p.2))):=by
    rw[Hid,HO.out]
    cases rest with
    |nil=>rw[lg];cases g<;>rfl
    |cons c r=>rw[lg,if_neg (λe=>L ⟨c,r,rfl,e⟩)];rfl
   clear HO L;have HT:∀x:World,bu x l rest->Calls prog 55 #[.pointer (some ⟨l,0,none⟩),.int .i64 a] x λe w'=>Reads x l rest (gY g a rest) e w':=
    λx S=>hT g (by omega) x l a rest S (by omega) (by omega) (by omega)
   go_wp2_with(first
    |(go_at_call 174;refine(HC _ K).mono ?_;rintro e w4 ⟨rfl,rfl⟩)
    |(go_at_call 55;refine(HT _ K).mono ?_))
   rintro e w5 ⟨i,hres⟩;have o:=cz D i Q;have s:=cz E i (by omega);have Z:=ai o;have b3:=ai s;obtain⟨⟨z0,z1,z2,z3⟩,f0,f1,f2,f3⟩:=bE o;obtain⟨⟨y0,y1,y2,y3⟩,x0,x1,x2,x3⟩:=bE s;rcases hres with⟨Y,rfl⟩|⟨k,tx,br,a1,n5,V,x,r,Y,a4,rfl,R,S⟩
   ·have U:Hid (lg f a A=none):=by rw[Hid,G.out,Y];rfl
    clear Y G HC HT
    go_wp2
    refine bodyPost_ret (v:=.tuple #[.agg #[.int .i64 0,.string ⟨#[]⟩,.bool false,.slice none 0 0],.bool false]) (by simp[results,Tryz.results102,go_sem,z0,z1,z2,z3,Z]) rfl ⟨?_,.inl ⟨by rw[U.out];rfl,rfl⟩⟩;refine aS ?_ _
    repeat(refine df ?_ (le_refl _) _ _)
    exact aB J i
   ·have U:Hid (lg f a A=(lg g a r).map (λp=>((F++ [x])++p.1,p.2))):=by rw[Hid,G.out,Y,Kz,OX]
    clear Y G HC HT;have HX:Hid _:=S;clear S
    go_wp2_with(at_builtin;refine wpList_append_own_at _ rfl (.tmp 35) (.tmp 37) 94 rfl (C.heap.size+1) 96 i0 (.agg #[.int .i64 0,.string ⟨#[]⟩,.bool false,.slice none 0 0]) 4 56 Tryz.underlying94 hi a9 b0 b1 rfl (by decide) _ _ _ rfl ((aA d (x:=w5) ?c0).alloc _ |>.alloc _) ⟨w5.heap.size+1,0,none⟩ 1 1 [.int .i64 k,.string (aa tx),.bool br,.slice a1 n5 V] rfl rfl ?c1 ?c2 ?c3 ?c4 ?c5 ?_)
    case c0=>intro q hq;have h1:=d.lt q hq;exact i.block q h1.2 (by simp;omega)
    case c1=>
     intro j u B
     match j,B with
     |0,B=>simp at B;subst B;simp[add]
     |1,B=>simp at B;subst B;simp[add]
     |2,B=>simp at B;subst B;simp[add]
     |3,B=>simp at B;subst B;simp[add]
    case c2=>intro u hu;simp at hu;rcases hu with rfl|rfl|rfl|rfl<;>rfl
    case c3=>unfold maxLen;omega
    case c4=>omega
    case c5=>simp;omega
    ·intro v' w6 z y _ W;obtain⟨H,n',m,rfl⟩:∃H n' m,v'=.slice H n' m:=by
      rcases z.2 with⟨e,_⟩|⟨q,m,b4,e,_⟩
      ·exact⟨_,_,_,e⟩
      ·exact⟨_,_,_,e⟩
     have a7:(slice M n cap).ownBlock≠some C.heap.size:=λe=>by have:=(d.lt _ e).1;omega
     have a6:(slice M n cap).ownBlock≠some w.heap.size:=λe=>by have:=(d.lt _ e).1;omega
     obtain⟨S1,S2,S3,S4⟩:=Pm _ _ (by omega) a0 d T i HX.out z y (by simpa using W);have kT:w6.heap[C.heap.size]? =_:=(S3 _ a0 (by omega) a7).trans E;have kA:w6.heap[w.heap.size]? =_:=(S3 _ a5 (by omega) a6).trans D;have R6:bu w6 l r:=R.ag λq hq=>S4 q (by omega) (λe=>by have:=(d.lt _ e).1;omega);have G6:w.grownBy w6 (some l):=by
      refine OC J i (row:=(slice M n cap).ownBlock) ?_ y (λq e=>by have:=(d.lt _ e).1;omega) S3;exact⟨rfl,rfl,rfl,by simp;omega⟩
     have M6:Hid (lQ wr l=rest.length):=K.lQ;have c7:=kA;obtain⟨⟨u0,u1,u2,u3⟩,v0,v1,v2,v3⟩:=bE kT;clear z y W d T HX D E o s z0 z1 z2 z3 f0 f1 f2 f3 y0 y1 y2 y3 x0 x1 x2 x3
     go_wp2
     go_roundw
     case rel=>exact⟨g,F++ [x],r,H,n',m,_,by omega,by omega,by simp;omega,U,R6.setCell (by omega) _ _,df G6 (by omega) _ _,(heap_setCell _ _ _ _ (by show w.heap.size≠C.heap.size;omega)).trans kA,Ih kT _,S2,S1⟩
     case measure=>show lQ _ l<lQ wr l;rw[M6.out,(R6.setCell (b:=C.heap.size) (by omega) 3 (.slice H n' m)).lQ];exact a4
theorem Ej(f:Nat)(j:∀d,d<f->yt d):Nv f:=by
 intro w g b c h k i l
 cases f with
 |zero=>omega
 |succ f=>
  cases c with
  |nil=>rw[Dy];exact El w g b h
  |cons t c=>
   simp only[length_cons]at k i;by_cases a:20<b
   ·rw[Dy,if_pos a];exact wI w g b t c h (.inl a)
   ·cases e:jU t.1 t.2 with
    |false=>rw[Dy,if_neg a,e];exact wI w g b t c h (.inr e)
    |true=>rw[Dy,if_neg a,e,if_pos rfl];exact BV f (λd h=>j d (by omega)) w g b t c h (by omega) (by omega) (by omega) e
theorem Qj(f:Nat):yt f:=by
 induction f using Nat.strongRecOn with
 |ind f ih=>
  intro w d a b h j e i
  cases f with
  |zero=>
   have:b= []:=List.length_eq_zero_iff.mp (by omega);subst this;rw[gY];exact GV w d a h
  |succ f=>
   cases b with
   |nil=>rw[gY];exact GV w d a h
   |cons t b=>
    simp only[length_cons]at j e;by_cases c:t.1=1
    ·rw[gY,if_pos c];exact Nh f (Ej f λg h=>ih g (by omega)) w d a t b h (by omega) (by omega) i c
    ·rw[gY,if_neg c];exact Ng w d a t b h c
def il(ts:List Tk):Option Tr:=match gY (2*ts.length) 0 ts with|some (t,[])=>some t|_=>none
def iW(l:Bs):Option Tr:=if 400<l.length then none else(bI l).bind il
theorem PK{w:World}{b:Nat}{v:Value}{c:List Tk}(h:w.ownsRow b 93 2 v c.length (dh c)):bu (w.alloc (.cells #[v] 170)) w.heap.size c:=by
 refine⟨v,bN w _, ?_⟩;rcases h.2 with⟨rfl,e⟩|⟨g,cap,d,rfl,_,f,l,k,m,n⟩
 ·exact .inl ⟨List.length_eq_zero_iff.mp e,_,_,rfl⟩
 ·have a:=ai f;refine .inr ⟨g,0,cap,rfl,a,l,k,λj u i=> ?_⟩;rw[World.cell?_of_block (w:=w) (heap_alloc _ _ _ a)];have:=h.cells (g:=g) rfl j u i;rw[Addr.add_lit]at this;exact this
theorem Eh{B:Nat}{a x y:World}{c:Nat}(h:Below B a x)(b:x.grownBy y (some c))(d:B<=c)(f:B<=x.heap.size):Below B a y:=
 h.trans ⟨b.os,b.tape,b.output,b.size,λk e=>b.block k (by omega) (by simp;omega)⟩
theorem bu.cell{w:World}{a:Nat}{d:List Tk}(h:bu w a d):∃b cap,w.cell? ⟨a,0,none⟩=some (.slice b d.length cap):=by
 obtain⟨v,hb,h⟩:=h;have c:w.cell? ⟨a,0,none⟩=some v:=by simp[cell?,hb]
 rcases h with⟨rfl,b,cap,rfl⟩|⟨g,e,cap,rfl,_⟩
 ·exact⟨_,_,c⟩
 ·exact⟨_,_,c⟩
def Hr(w:World)(o:Option Tr)(e:Ending)(w':World):Prop:=
 Below w.heap.size w w'/\
  ((o=none/\e=.returned (.tuple #[.agg #[.int .i64 0,.string ⟨#[]⟩,.bool false,.slice none 0 0],.int .i64 1]))\/
   (∃k tx br ao n cap t,o=some t/\e=.returned (.tuple #[.agg #[.int .i64 k,.string (aa tx),.bool br,.slice ao n cap],.int .i64 0])/\
    kQ w' (λg=>w.heap.size<=g) [.int .i64 k,.string (aa tx),.bool br,.slice ao n cap] t))
theorem ry{B:Nat}{a w:World}(h:Below B a w){b:Nat}(hb:B<=b)(o:Nat)(v:Value):Below B a (w.setCell ⟨b,o,none⟩ v):=h.setCell (p:=⟨b,o,none⟩) hb v
theorem Jd(s:ByteArray)(w:World)(a:s.size<=maxLen)(b:400<s.size):
  Calls prog 20 #[.string s] w λe w'=>Hr w none e w':=by
 unfold maxLen at a;go_enter Tryz.func20,Tryz.ntmps20
 go_wp2_with fail
 exact bodyPost_ret (v:=.tuple #[.agg #[.int .i64 0,.string ⟨#[]⟩,.bool false,.slice none 0 0],.int .i64 1]) (by simp[results,Tryz.results20,go_sem]) rfl ⟨(refl _ _).alloc (le_refl _) _,.inl ⟨rfl,rfl⟩⟩
theorem FR(s:ByteArray)(w:World)(S:s.size<=400):
  Calls prog 20 #[.string s] w λe w'=>Hr w ((bI s.toList).bind il) e w':=by
 go_enter Tryz.func20,Tryz.ntmps20
 go_wp2_with(go_at_call 54;refine(PN s _ S).mono ?_)
 rintro e w2 ⟨o,hres⟩;have i:=cu (bN w _) o;have U:=ai i;have G:Below w.heap.size w w2:=((refl _ _).alloc (le_refl _) _).trans (o.mono (by simp));obtain⟨⟨z0,u,z2,z3⟩,f0,f1,f2,f3⟩:=bE i;rcases hres with⟨a,rfl⟩|⟨d,v,a,D,rfl,b⟩
 ·have l:Hid ((bI s.toList).bind il=none):=by rw[Hid,a];rfl
  clear a
  go_wp2_with fail
  refine bodyPost_ret (v:=.tuple #[.agg #[.int .i64 0,.string ⟨#[]⟩,.bool false,.slice none 0 0],.int .i64 1]) (by simp[results,Tryz.results20,go_sem,z0,u,z2,z3]) rfl ⟨?_,.inl ⟨l.out,rfl⟩⟩
  repeat(refine ry ?_ (le_refl _) _ _)
  exact G
 ·have l:Hid ((bI s.toList).bind il=il d):=by rw[Hid,a];rfl
  clear a;obtain⟨L,W,H,rfl⟩:∃B n cap,v=.slice B n cap:=by
   rcases b.2 with⟨e,_⟩|⟨q,cap,P,e,_⟩
   ·exact⟨_,_,_,e⟩
   ·exact⟨_,_,_,e⟩
  have R:=PK b;clear b;have y:∀x:World,bu x w2.heap.size d->Calls prog 55 #[.pointer (some ⟨w2.heap.size,0,none⟩),.int .i64 0] x λe w'=>Reads x w2.heap.size d (gY (2*d.length) 0 d) e w':=
   λx t=>Qj (2*d.length) x w2.heap.size 0 d t (by omega) D (by omega)
  go_wp2_with(go_at_call 55;refine(y _ R).mono ?_)
  rintro e F ⟨h,hres⟩;have p:=cz (dE i _) h (by omega);have j:=ai p;obtain⟨⟨z0,u,z2,z3⟩,f0,f1,f2,f3⟩:=bE p;have A:Below w.heap.size w F:=Eh (G.alloc (by omega) _) h (by omega) (by simp;omega);rcases hres with⟨a,rfl⟩|⟨k,V,N,B,n,cap,x,r,a,T,rfl,E,t⟩
  ·have m:Hid (il d=none):=by rw[Hid,il,a]
   clear a y
   go_wp2_with fail
   refine bodyPost_ret (v:=.tuple #[.agg #[.int .i64 0,.string ⟨#[]⟩,.bool false,.slice none 0 0],.int .i64 1]) (by simp[results,Tryz.results20,go_sem,z0,u,z2,z3,j]) rfl ⟨?_,.inl ⟨by rw[l.out,m.out],rfl⟩⟩;refine alloc ?_ (by simp[setCell];omega) _
   repeat(refine ry ?_ (le_refl _) _ _)
   exact A
  ·obtain⟨M,O,f⟩:=E.cell;have C:=h.size;simp only[World.size_alloc]at C;have J:w2.heap.size<F.heap.size:=by omega
   cases r with
   |nil=>
    have m:Hid (il d=some x):=by rw[Hid,il,a]
    have K:Hid _:=t;clear a y t;simp only[List.length_nil]at f
    go_wp2_with fail
    refine bodyPost_ret (v:=.tuple #[.agg #[.int .i64 k,.string (aa V),.bool N,.slice B n cap],.int .i64 0]) (by simp[results,Tryz.results20,go_sem,z0,u,z2,z3,j]) rfl ⟨?_,.inr ⟨_,_,_,_,_,_,x,by rw[l.out,m.out],rfl,K.out.bounded.move (λg z=> ?_) (λg z=>by have:=z.1;simp at this;omega)⟩⟩
    ·refine alloc ?_ (by simp[setCell];omega) _
     repeat(refine ry ?_ (le_refl _) _ _)
     exact A
    ·have Q:=z.1;simp at Q;rw[heap_alloc _ _ _ (by simp[setCell];exact z.2)]
     repeat rw[heap_setCell _ _ _ _ (by show g≠w.heap.size;omega)]
   |cons c r=>
    have m:Hid (il d=none):=by rw[Hid,il,a]
    have I:F.cell? ⟨w2.heap.size,0,none⟩=some (.slice M (r.length+1) O):=f;clear a y t f
    go_wp2_with fail
    refine bodyPost_ret (v:=.tuple #[.agg #[.int .i64 0,.string ⟨#[]⟩,.bool false,.slice none 0 0],.int .i64 1]) (by simp[results,Tryz.results20,go_sem,z0,u,z2,z3,j]) rfl ⟨?_,.inl ⟨by rw[l.out,m.out],rfl⟩⟩;refine alloc ?_ (by simp[setCell];omega) _
    repeat(refine ry ?_ (le_refl _) _ _)
    exact A
theorem MC(s:ByteArray)(w:World)(b:s.size<=maxLen):
  Calls prog 20 #[.string s] w λe w'=>Hr w (iW s.toList) e w':=by
 unfold iW;rw[ah];by_cases a:400<s.size
 ·rw[if_pos a];exact Jd s w b a
 ·rw[if_neg a];exact FR s w (by omega)
theorem gB.get{w:World}{S:Nat->Prop}{cs:List Value}{e:List Tr}(h:gB w S cs e)(i:Nat)(g:i<e.length):∃c,kQ w S c e[i]/\∀j,j<4->cs[i*4+j]? =c[j]? :=by
 induction e generalizing cs i with
 |nil=>simp at g
 |cons t e ih=>
  cases h with
  | @cons c cs _ _ a b=>
   cases i with
   |zero=>exact⟨c,a,λj k=>by rw[List.getElem?_append_left (by rw[a.four];omega)];simp⟩
   |succ i=>
    obtain⟨d,l,k⟩:=ih b i (by simpa using g);refine⟨d,l,λj f=> ?_⟩;rw[<-k j f,List.getElem?_append_right (by rw[a.four];omega),a.four];congr 1;omega
theorem kQ.inv{w:World}{S:Nat->Prop}{c:List Value}{t:Tr}(h:kQ w S c t):∃k i f e j n cap cs,t=.mk k i f e/\c= [.int .i64 k,.string (aa i),.bool f,.slice j n cap]/\n=e.length/\gB w S cs e/\
  w.ownsRow 0 96 4 (.slice j n cap) e.length cs/\∀g,(slice j n cap).ownBlock=some g->S g:=by
 cases h with
 | @mk k i f e v cs a b d=>
  rcases b.2 with⟨rfl,m⟩|⟨g,cap,l,rfl,o⟩
  ·exact⟨k,i,f,e,none,0,0,cs,rfl,rfl,m.symm,a,b,d⟩
  ·exact⟨k,i,f,e,_,_,_,cs,rfl,rfl,rfl,a,b,d⟩
mutual
def UF:Tr->Nat
 | .mk _ _ br ops=>if br then 1+Iw ops else 0
def Iw:List Tr->Nat
 | []=>0
 |t::ts=>max (UF t) (Iw ts)
end
def xW(l:Bs):Bool:=l.all λc=>eF c.toNat
def oU(c:UInt8):Bool:=eF c.toNat||aM c.toNat
def si(r:Bs):Prop:=r= []\/oU (r.headD 0)=true
def Good(tx:Bs):Prop:=(tx≠ []/\tx.all (λc=> !oU c&&c != 39)=true)\/(∃inner:Bs,tx=39::(inner++ [39])/\inner.all (λc=>c != 39)=true)
theorem BR(c:UInt8)(l:Bs):xW (c::l)=(eF c.toNat&&xW l):=rfl
theorem Gu(b l:Bs)(h:xW b=true):bI (b++l)=bI l:=by
 induction b with
 |nil=>rfl
 |cons c r ih=>
  rw[BR,Bool.and_eq_true]at h;rw[oQ _ (by simp)];simp only[cons_append,headD_cons,h.1,if_true,List.drop_succ_cons,List.drop_zero];exact ih h.2
theorem Gv(a r:Bs)(b:0<a.length)(hb:eF (a.headD 0).toNat=false)(d:eT (a++r)=a.length):bI (a++r)=if aT a=0 then none else(bI r).map ((aT a,a):: ·):=by
 have c:(a++r).headD 0=a.headD 0:=by cases a with|nil=>simp at b|cons _ _=>rfl
 rw[oQ _ (by simp;omega),c,hb,if_neg Bool.false_ne_true,d,List.take_left,List.drop_left]
theorem kD(c:UInt8):dC c= !oU c:=by simp[dC,oU]
theorem KQ(r:Bs)(h:si r):r.takeWhile dC= []:=by
 rcases h with rfl|h
 ·rfl
 ·cases r with
  |nil=>rfl
  |cons c r=>
   have:dC c=false:=by rw[kD];simp only[headD_cons]at h;rw[h];rfl
   rw[List.takeWhile_cons,this];rfl
theorem Uy(a r:Bs)(h:a.all dC=true)(b:si r):(a++r).takeWhile dC=a:=by
 induction a with
 |nil=>exact KQ r b
 |cons c t ih=>
  rw[all_cons,Bool.and_eq_true]at h;rw[cons_append,List.takeWhile_cons,h.1,if_pos rfl,ih h.2]
theorem VV(a r:Bs)(h:a.all (λc=>c != 39)=true):(a++39::r).takeWhile (· != 39)=a:=by
 induction a with
 |nil=>rfl
 |cons c t ih=>
  rw[all_cons,Bool.and_eq_true]at h;rw[cons_append,List.takeWhile_cons,h.1,if_pos rfl,ih h.2]
theorem EN{a:Bs}(h:Good a):0<a.length:=by
 rcases h with⟨h,_⟩|⟨i,rfl,_⟩
 ·exact List.length_pos_iff.mpr h
 ·simp
theorem vD{a:Bs}(h:Good a):oU (a.headD 0)=false:=by
 rcases h with⟨h,b⟩|⟨i,rfl,_⟩
 ·cases a with
  |nil=>exact absurd rfl h
  |cons c t=>rw[all_cons,Bool.and_eq_true]at b;have:=b.1;simp at this;simpa using this.1
 ·rfl
theorem rH{c:UInt8}(h:oU c=false):eF c.toNat=false/\aM c.toNat=false:=by
 unfold oU at h;simpa using h
theorem LM{a r:Bs}(h:Good a)(j:si r):eT (a++r)=a.length:=by
 have m:=vD h;have n:=EN h;have f:(a++r).headD 0=a.headD 0:=by cases a with|nil=>simp at n|cons _ _=>rfl
 unfold eT;rw[f,(rH m).2,if_neg Bool.false_ne_true];rcases h with⟨h,b⟩|⟨i,rfl,b⟩
 ·have g:lJ (a++r)=0:=by
   unfold lJ;rw[f]
   cases a with
   |nil=>exact absurd rfl h
   |cons c t=>
    rw[all_cons,Bool.and_eq_true]at b;have:=b.1;simp at this;rw[headD_cons,if_neg];simpa using this.2
  have k:a.all dC=true:=by
   rw[List.all_eq_true]at b ⊢;intro c l;have:=b c l;simp at this;rw[kD,this.1];rfl
  rw[g,List.drop_zero,Uy a r k j,Nat.zero_add]
 ·have e:((39::(i++ [39]))++r).drop 1=i++39::r:=by simp
  have g:lJ ((39::(i++ [39]))++r)=i.length+2:=by
   unfold lJ;rw[e,VV i r b,if_pos (by rfl),if_pos];rw[List.contains_iff_mem];simp
  rw[g];have d:((39::(i++ [39]))++r).drop (i.length+2)=r:=by
   have:(39::(i++ [39])).length=i.length+2:=by simp
   rw[<-this,List.drop_left]
  rw[d,KQ r j];simp
mutual
def vY:Tr->List Tk
 | .mk k tx br ops=>if br then(1,[40])::(k,tx)::(qX ops++ [(2,[41])])else [(k,tx)]
def qX:List Tr->List Tk
 | []=>[]
 |t::ts=>vY t++qX ts
end
mutual
inductive Wf:Tr->Prop
 |leaf {k:Int} {tx:Bs} :aT tx=k->k≠0->¬k=1->¬k=2->Good tx->fZ k tx=true->Wf (.mk k tx false [])
 |node {k:Int} {tx:Bs} {ops:List Tr} :aT tx=k->k≠0->Good tx->jU k tx=true->SN ops->Wf (.mk k tx true ops)
inductive SN:List Tr->Prop
 |nil:SN []
 |cons {t:Tr} {ts:List Tr} :Wf t->SN ts->SN (t::ts)
end
theorem IC{x:Tr}(h:Wf x):∃t r,vY x=t::r/\¬t.1=2:=by
 cases h with
 |leaf b c d a e f=>exact⟨_,[],by rw[vY];rfl,a⟩
 |node b c d a e=>exact⟨(1,[40]),_,by rw[vY];rfl,by decide⟩
mutual
theorem yY:∀ {x:Tr} {f deep:Nat} {r:List Tk},Wf x->deep+UF x<=20->2*(vY x).length<=f->gY f deep (vY x++r)=some (x,r)
 |_,f,deep,r,.leaf h1 h2 h3 h4 h5 h6,_,hf=>by
  rw[vY]at hf ⊢;simp at hf;obtain⟨g,rfl⟩:∃g,f=g+1:=⟨f- 1,by omega⟩;simp only[Bool.false_eq_true,if_false,cons_append,nil_append];rw[gY,if_neg h3,h6,if_pos rfl]
 |_,f,deep,r, @Wf.node k tx ops h1 h2 h3 h4 h5,hd,hf=>by
  rw[UF,if_pos rfl]at hd;rw[vY,if_pos rfl]at hf ⊢;simp only[length_cons,List.length_append,List.length_nil]at hf;obtain⟨g,rfl⟩:∃g,f=g+2:=⟨f- 2,by omega⟩;have:=wV (r:=r) (f:=g) (deep:=deep+1) h5 (by omega) (by omega);simp only[cons_append,List.append_assoc,nil_append];rw[gY,if_pos rfl,Dy,if_neg (by omega),h4,if_pos rfl,this];rfl
theorem wV:∀ {c:List Tr} {f deep:Nat} {r:List Tk},SN c->deep+Iw c<=20->2*(qX c).length+1<=f->lg f deep (qX c++(2,[41])::r)=some (c,r)
 |_,f,deep,r,.nil,_,hf=>by
  obtain⟨g,rfl⟩:∃g,f=g+1:=⟨f- 1,by omega⟩;rw[qX,nil_append,lg,if_pos rfl]
 |_,f,deep,r, @SN.cons t ts h1 h2,hd,hf=>by
  rw[Iw]at hd;rw[qX,List.length_append]at hf;obtain⟨a,b,d,h⟩:=IC h1;obtain⟨g,rfl⟩:∃g,f=g+1:=⟨f- 1,by omega⟩;have i:1<=(vY t).length:=by rw[d];simp
  have e:=yY (f:=g) (deep:=deep) (r:=qX ts++(2,[41])::r) h1 (by omega) (by omega);have i2:=wV (f:=g) (deep:=deep) (r:=r) h2 (by omega) (by omega);rw[qX,List.append_assoc];rw[d,cons_append]at e;rw[d,cons_append,lg,if_neg h,e];simp only;rw[i2];rfl
end
end Go.Proofs.YtdifpeaklamhnaaGreatDoor
