import Derived.Test.YtdifpeaklamhnaaGreatDoorTyJZ
import Derived.Lib.AtoiErrMem
set_option linter.unusedVariables false
set_option linter.unusedSimpArgs false
set_option maxRecDepth 100000
set_option maxHeartbeats 0
namespace Go.Proofs.YtdifpeaklamhnaaGreatDoor
open Go.Proofs.Tryz
open Go.RowKit
open World (size_alloc size_setCell)
open Bool (and_eq_true)
open List (mem_cons_of_mem)
def mJ(o:Except Int Ex):Except Int Ex:=match o with
 | .error n=>.error n
 | .ok x=>if 300<x.size then .error 4 else .ok x
def eG(atoi:Bs->Int)(ps:Sc)(fns:List Fn)(l:Bs):Except Int Ex:=match iW l with
 |none=>.error 1
 |some t=>mJ (bg atoi ps fns t)
theorem sN(w:World)(o:Obj)(a b:Int):Calls prog 66 #[.slice (some ⟨w.heap.size+1,0,none⟩) 2 2] ((w.alloc o).alloc (.cells #[.int .i64 a,.int .i64 b] 68)) λe w'=>e=.returned (.int .i64 (aK [a,b]))/\w'=(w.alloc o).alloc (.cells #[.int .i64 a,.int .i64 b] 68):=by
 have d:=heap_alloc_new (w.alloc o) (.cells #[.int .i64 a,.int .i64 b] 68);rw[size_alloc]at d;refine vB _ (w.heap.size+1) 2 [a,b] (by simp) λj u c=> ?_;rw[af d]
 match j,c with
 |0,c=>simp at c;subst c;rfl
 |1,c=>simp at c;subst c;rfl
theorem sD(a:Bs->Int)(ps:Sc)(fns:List Fn)(hf:∀fn∈fns,0<=fn.body.size/\fn.body.size<=300)(s:ByteArray)(hs:s.size<=maxLen)(i:∀t,iW s.toList=some t->Fit (DU a) t/\uH t<=1000)
  (w:World) (T:List Nat) (R:Option Addr) (Q P:Nat) (O:Option Addr) (N M:Nat) (K:Option Addr) (d J:Nat) (D:Ht w T (.slice R Q P) (.slice O N M) (.slice K d J) ps fns):
  Calls prog 187 #[.agg #[.slice R Q P,.slice O N M,.slice K d J],.string s] w λe w'=>sJ w T (eG a ps fns s.toList) e w':=by
 have Z:=az w (.cells #[.slice R Q P,.slice O N M,.slice K d J] 332) EJ;go_enter Tryz.func187,Tryz.ntmps187
 go_wp2_with(go_at_call 20;refine(MC s _ hs).mono ?_)
 rintro e w2 ⟨q,hres⟩;have h:=Bi q;obtain⟨m,S,a6⟩:=mG q;rcases hres with⟨L,rfl⟩|⟨k,tx,br,ao,n,cap,t,L,rfl,hT⟩
 ·have l:Hid (eG a ps fns s.toList=.error 1):=by rw[Hid,eG,L]
  obtain⟨⟨z0,z1,z2,z3,z4,z5,z6,z7,z8,z9,j⟩,g0,g1,g2,g3,g4,g5,g6,g7,g8,g9,a0⟩:=bz m;have f:w.heap.size+1<w2.heap.size:=by omega
  clear L i hf D h m q Z
  go_wp2_with fail
  refine bodyPost_ret (v:=.tuple #[.agg #[.int .i64 0,.int .i64 0,.int .i64 0,.bool false,.int .i64 0,.int .i64 0,.string ⟨#[]⟩,.int .i64 0,.string ⟨#[]⟩,.pointer none,.slice none 0 0],.int .i64 1]) (by simp[results,Tryz.results187,go_sem,f,z0,z1,z2,z3,z4,z5,z6,z7,z8,z9,j]) rfl ⟨?_,.inl ⟨1,l.out,by decide,rfl⟩⟩;exact(bD S (by omega) _ _ _ _ _ _ _ _ _ _ _).alloc (by simp only[size_setCell];exact S.size) _
 ·obtain⟨hF,X⟩:=i t L;have HC:∀x:World,Below w2.heap.size w2 x->Calls prog 242 #[.agg #[.slice R Q P,.slice O N M,.slice K d J],.agg #[.int .i64 k,.string (aa tx),.bool br,.slice ao n cap]] x λe w'=>sJ x T (bg a ps fns t) e w':=
   λx y=>Om a _ t x T ps fns R Q P O N M K d J _ (Nat.le_refl _) X hF (hT.bounded.move (λg u=>y.block g u.2) (λ_ _=>trivial)) ((D.ag S).ag y) hf
  have l:Hid (eG a ps fns s.toList=mJ (bg a ps fns t)):=by rw[Hid,eG,L]
  have a1:w.heap.size<w2.heap.size:=by omega
  have s0:w2.cell? ⟨w.heap.size,0,none⟩=some (.slice R Q P):=(af h).trans rfl;have s1:w2.cell? ⟨w.heap.size,1,none⟩=some (.slice O N M):=(af h).trans rfl;have s2:w2.cell? ⟨w.heap.size,2,none⟩=some (.slice K d J):=(af h).trans rfl;have V:=λx (y:bg a ps fns t=.ok x)=>wh a ps hf _ t (Nat.le_refl _) x y;obtain⟨o,Y⟩:∃o,o=bg a ps fns t:=⟨_,rfl⟩;rw[<-Y]at l HC V;clear L i hf D Y hF hT q Z
  go_wp2_with(go_at_call 242;refine(HC _ ?c1).mono ?_)
  case c1=>exact ae w2 _
  rintro e z ⟨r,hres⟩;have A:Below w2.heap.size w2 z:=(ae w2 _).trans (r.mono (by simp[size_alloc]));have a7:=A.size;have p:=(A.block _ (by omega)).trans m;have f:w.heap.size+1<z.heap.size:=by omega
  have B:w.heap.size<z.heap.size:=by omega
  have I:Below w.heap.size w z:=S.trans (A.mono S.size);obtain⟨⟨z0,z1,z2,z3,z4,z5,z6,z7,z8,z9,j⟩,g0,g1,g2,g3,g4,g5,g6,g7,g8,g9,a0⟩:=bz p;clear HC s0 s1 s2 h m a1;rcases hres with⟨H,rfl,C,rfl⟩|⟨x,c5,rfl,rfl,y⟩
  ·have U:Hid (eG a ps fns s.toList=.error H):=l.out;have c:Hid (aK [H,fU false 4]=H):=by rw[Hid,aK,if_neg C]
   have a5:(H==0)=false:=by simpa using C
   have b:=sN z (.cells #[.int .i64 0,.int .i64 0,.int .i64 0,.bool false,.int .i64 0,.int .i64 0,.string ⟨#[]⟩,.int .i64 0,.string ⟨#[]⟩,.pointer none,.slice none 0 0] 210) H (fU false 4);rw[c.out]at b;clear l V r p c
   go_wp2_with(first
    |(go_at_call 123;refine(jf _ _ _).mono ?_;rintro e w4 ⟨rfl,rfl⟩)
    |(go_at_call 66;refine b.mono ?_;rintro e w4 ⟨rfl,rfl⟩))
   refine bodyPost_ret (v:=.tuple #[.agg #[.int .i64 0,.int .i64 0,.int .i64 0,.bool false,.int .i64 0,.int .i64 0,.string ⟨#[]⟩,.int .i64 0,.string ⟨#[]⟩,.pointer none,.slice none 0 0],.int .i64 H]) (by simp[results,Tryz.results187,go_sem,f,B,z0,z1,z2,z3,z4,z5,z6,z7,z8,z9,j]) rfl ⟨?_,.inl ⟨H,U.out,C,rfl⟩⟩;exact((bD I (by omega) _ _ _ _ _ _ _ _ _ _ _).alloc (by simp only[size_setCell];exact I.size) _).alloc (by simp only[size_alloc,size_setCell];omega) _
  ·obtain⟨sort,ty,size,quiet,vk,vn,vs,place,head,fi,a4,fp,xo,xn,xc,a8,F,E, -, -, -, -, -⟩:=y.inv;have a2:c5= #[.int .i64 sort,.int .i64 ty,.int .i64 size,.bool quiet,.int .i64 vk,.int .i64 vn,.string (aa vs),.int .i64 place,.string (aa head),.pointer fp,.slice xo xn xc]:=by rw[<-Array.toList_inj];exact E
   subst a2;have G:x.size=size:=by rw[F];rfl
   have a3:=V x rfl;rw[G]at a3;by_cases h3:300<size
   ·have U:Hid (eG a ps fns s.toList=.error 4):=by rw[Hid,l.out,mJ,if_pos (by omega)]
    have c:Hid (aK [0,fU true 4]=4):=rfl;have b:=sN z (.cells #[.int .i64 sort,.int .i64 ty,.int .i64 size,.bool quiet,.int .i64 vk,.int .i64 vn,.string (aa vs),.int .i64 place,.string (aa head),.pointer fp,.slice xo xn xc] 210) 0 (fU true 4);rw[c.out]at b;have W:decide ((300:Int)<size)=true:=by simpa using h3
    clear l V r p c y F E G
    go_wp2_with(first
     |(go_at_call 123;refine(jf _ _ _).mono ?_;rintro e w4 ⟨rfl,rfl⟩)
     |(go_at_call 66;refine b.mono ?_;rintro e w4 ⟨rfl,rfl⟩))
    refine bodyPost_ret (v:=.tuple #[.agg #[.int .i64 0,.int .i64 0,.int .i64 0,.bool false,.int .i64 0,.int .i64 0,.string ⟨#[]⟩,.int .i64 0,.string ⟨#[]⟩,.pointer none,.slice none 0 0],.int .i64 4]) (by simp[results,Tryz.results187,go_sem,f,B,z0,z1,z2,z3,z4,z5,z6,z7,z8,z9,j]) rfl ⟨?_,.inl ⟨4,U.out,by decide,rfl⟩⟩;exact((bD I (by omega) _ _ _ _ _ _ _ _ _ _ _).alloc (by simp only[size_setCell];exact I.size) _).alloc (by simp only[size_alloc,size_setCell];omega) _
   ·have U:Hid (eG a ps fns s.toList=.ok x):=by rw[Hid,l.out,mJ,if_neg (by omega)]
    have c:Hid (aK [0,fU false 4]=0):=rfl;have b:=sN z (.cells #[.int .i64 sort,.int .i64 ty,.int .i64 size,.bool quiet,.int .i64 vk,.int .i64 vn,.string (aa vs),.int .i64 place,.string (aa head),.pointer fp,.slice xo xn xc] 210) 0 (fU false 4);rw[c.out]at b;have W:decide ((300:Int)<size)=false:=by simpa using h3
    have HX:Hid (dJ z T (λg=>w2.heap.size+1<=g) [.int .i64 sort,.int .i64 ty,.int .i64 size,.bool quiet,.int .i64 vk,.int .i64 vn,.string (aa vs),.int .i64 place,.string (aa head),.pointer fp,.slice xo xn xc] x):=y.move (λ_ _=>rfl) (λg u=>by simpa only[size_alloc]using u);clear l V r p c y F E G
    go_wp2_with(first
     |(go_at_call 123;refine(jf _ _ _).mono ?_;rintro e w4 ⟨rfl,rfl⟩)
     |(go_at_call 66;refine b.mono ?_;rintro e w4 ⟨rfl,rfl⟩))
    refine bodyPost_ret (v:=.tuple #[.agg #[.int .i64 sort,.int .i64 ty,.int .i64 size,.bool quiet,.int .i64 vk,.int .i64 vn,.string (aa vs),.int .i64 place,.string (aa head),.pointer fp,.slice xo xn xc],.int .i64 0]) (by simp[results,Tryz.results187,go_sem,f,B,z0,z1,z2,z3,z4,z5,z6,z7,z8,z9,j]) rfl ⟨?_,.inr ⟨x,_,U.out,rfl, ?_⟩⟩
    ·exact((bD I (by omega) _ _ _ _ _ _ _ _ _ _ _).alloc (by simp only[size_setCell];exact I.size) _).alloc (by simp only[size_alloc,size_setCell];omega) _
    ·refine HX.out.bounded.move (λg u=> ?_) (λg u=>by have:=u.1;omega);rw[Below.heap_alloc _ _ _ (by simp only[size_alloc,size_setCell];have:=u.2;omega),Below.heap_alloc _ _ _ (by simp only[size_setCell];exact u.2)];exact gH _ _ _ _ _ _ _ _ _ _ _ _ _ _ (by have:=u.1;omega)
theorem Qk(P:Int->Bs->Prop):∀f:Nat,(∀a d t r,gY f a d=some (t,r)->(∀c∈d,P c.1 c.2)->Fit P t/\(∀c∈r,c∈d)/\uH t+r.length<=d.length)/\
  (∀a d t r,Dy f a d=some (t,r)->(∀c∈d,P c.1 c.2)->Fit P t/\(∀c∈r,c∈d)/\uH t+r.length<=d.length)/\
  (∀a d m r,lg f a d=some (m,r)->(∀c∈d,P c.1 c.2)->Fits P m/\(∀c∈r,c∈d)/\fM m+r.length<=d.length):=by
 intro f
 induction f with
 |zero=>exact⟨λ_ _ _ _ h=>by simp[gY]at h,λ_ _ _ _ h=>by simp[Dy]at h,λ_ _ _ _ h=>by simp[lg]at h⟩
 |succ f ih=>
  obtain⟨w,i2,i3⟩:=ih;refine⟨λa d t r h i=> ?_,λa d t r h i=> ?_,λa d m r h i=> ?_⟩
  ·cases d with
   |nil=>simp[gY]at h
   |cons c d=>
    rw[gY]at h;by_cases k:c.1=1
    ·rw[if_pos k]at h;obtain⟨n,o,v⟩:=i2 _ _ _ _ h λg b=>i g (mem_cons_of_mem _ b);exact⟨n,λg b=>mem_cons_of_mem _ (o g b),by simp;omega⟩
    ·rw[if_neg k]at h
     cases j:fZ c.1 c.2 with
     |false=>rw[j]at h;simp at h
     |true=>
      rw[j,if_pos rfl]at h;simp only[Option.some.injEq,Prod.mk.injEq]at h;obtain⟨rfl,rfl⟩:=h;exact⟨.mk (λ_=>i c (by simp)) .nil,λg b=>mem_cons_of_mem _ b,by simp[uH,fM];omega⟩
  ·cases d with
   |nil=>simp[Dy]at h
   |cons c d=>
    rw[Dy]at h;by_cases u:20<a
    ·rw[if_pos u]at h;simp at h
    ·rw[if_neg u]at h
     cases j:jU c.1 c.2 with
     |false=>rw[j]at h;simp at h
     |true=>
      rw[j,if_pos rfl]at h;obtain⟨⟨m,y⟩,q,l⟩:=Option.map_eq_some_iff.mp h;simp only[Prod.mk.injEq]at l;obtain⟨rfl,rfl⟩:=l;obtain⟨n,o,v⟩:=i3 _ _ _ _ q λg b=>i g (mem_cons_of_mem _ b);exact⟨.mk (λe=>by cases e) n,λg b=>mem_cons_of_mem _ (o g b),by simp[uH];omega⟩
  ·cases d with
   |nil=>simp[lg]at h
   |cons c d=>
    rw[lg]at h;by_cases k:c.1=2
    ·rw[if_pos k]at h;simp only[Option.some.injEq,Prod.mk.injEq]at h;obtain⟨rfl,rfl⟩:=h;exact⟨.nil,λg b=>mem_cons_of_mem _ b,by simp[fM]⟩
    ·rw[if_neg k]at h
     cases s:gY f a (c::d)with
     |none=>rw[s]at h;simp at h
     |some p=>
      obtain⟨x,y⟩:=p;rw[s]at h;obtain⟨⟨A,z⟩,q,l⟩:=Option.map_eq_some_iff.mp h;simp only[Prod.mk.injEq]at l;obtain⟨rfl,rfl⟩:=l;obtain⟨a1,a2,a3⟩:=w _ _ _ _ s i;obtain⟨b1,b2,b3⟩:=i3 _ _ _ _ q λg b=>i g (a2 g b);exact⟨.cons a1 b1,λg b=>a2 g (b2 g b),by simp[fM];simp at a3;omega⟩
theorem Js:∀(n:Nat) (l:Bs) (b:List Tk),l.length<=n->bI l=some b->(∀c∈b,c.1=aT c.2)/\b.length<=l.length:=by
 intro n
 induction n with
 |zero=>intro l b h a;rw[kC l (by omega)]at a;simp only[Option.some.injEq]at a;subst a;simp
 |succ n ih=>
  intro l b h a;by_cases j:l.length=0
  ·rw[kC l j]at a;simp only[Option.some.injEq]at a;subst a;simp
  ·rw[oQ l (by omega)]at a
   cases hb:eF (l.headD 0).toNat with
   |true=>
    rw[hb,if_pos rfl]at a;obtain⟨d,e⟩:=ih _ _ (by simp;omega) a;exact⟨d,by simp at e;omega⟩
   |false=>
    have o:=oN l (by omega) hb;have k:=CK l (by omega);rw[hb,if_neg Bool.false_ne_true]at a;by_cases i:aT (l.take (eT l))=0
    ·rw[if_pos i]at a;simp at a
    ·rw[if_neg i]at a;obtain⟨m,g,rfl⟩:=Option.map_eq_some_iff.mp a;obtain⟨d,e⟩:=ih _ _ (by simp;omega) g;refine⟨λc f=> ?_,by simp at e ⊢;omega⟩;rcases List.mem_cons.mp f with rfl|f
     ·rfl
     ·exact d c f
theorem vP(P:Int->Bs->Prop)(g:∀l,P (aT l) l)(l:Bs)(t:Tr)(h:iW l=some t):Fit P t/\uH t<=1000:=by
 unfold iW at h;by_cases e:400<l.length
 ·rw[if_pos e]at h;simp at h
 ·rw[if_neg e]at h;obtain⟨d,f,a⟩:=Option.bind_eq_some_iff.mp h;obtain⟨j,k⟩:=Js _ l d (Nat.le_refl _) f;unfold il at a
  cases b:gY (2*d.length) 0 d with
  |none=>rw[b]at a;simp at a
  |some p=>
   obtain⟨x,r⟩:=p;rw[b]at a
   cases r with
   |cons _ _=>simp at a
   |nil=>
    simp only[Option.some.injEq]at a;subst a;obtain⟨a1,_,a3⟩:=(Qk P _).1 _ _ _ _ b λc i=>by rw[j c i];exact g _
    exact⟨a1,by simp at a3;omega⟩
theorem Ff{l:Bs}(h:aT l=3):dK l=true:=by
 unfold aT at h
 repeat' (split at h)
 all_goals first|omega|assumption
theorem yO{l:Bs}(h:aT l=4):cB l=true:=by
 unfold aT at h
 repeat' (split at h)
 all_goals first|omega|assumption
theorem OM{l:Bs}(h:aT l=7):iC l=true:=by
 unfold aT at h
 repeat' (split at h)
 all_goals first|omega|assumption
def bA(l:Bs):Int:=(Lib.atoi l).getD 0
theorem wT:∀(l:Bs) (n:Nat),bO l n=true->∃m,Lib.decFrom n l=some m
 | [],n,_=>⟨n,rfl⟩
 |c::r,n,h=>by
  rw[bO]at h;simp only[and_eq_true,decide_eq_true_eq,bQ]at h;obtain⟨⟨⟨f,g⟩,i⟩,a⟩:=h;have b:Lib.digitVal c=some (c.toNat- 48):=by unfold Lib.digitVal;rw[if_pos (by omega)]
  have e:((n:Int)*10+((c.toNat:Int)- 48))=((n*10+(c.toNat- 48):Nat):Int):=by omega
  rw[e]at a;obtain⟨m,d⟩:=wT r _ a;exact⟨m,by rw[Lib.decFrom,b];exact d⟩
theorem wU:∀(l:Bs) (n:Nat),bO l n=true->1<=n->n*10 ^ l.length<=1000000000\/l= []
 | [],_,_,_=>.inr rfl
 |c::r,n,h,hn=>by
  rw[bO]at h;simp only[and_eq_true,decide_eq_true_eq,bQ]at h;obtain⟨⟨⟨b,d⟩,f⟩,a⟩:=h;have e:((n:Int)*10+((c.toNat:Int)- 48))=((n*10+(c.toNat- 48):Nat):Int):=by omega
  rw[e]at a;left;rcases wU r _ a (by omega)with h5|h5
  ·rw[List.length_cons,Nat.pow_succ];have:n*(10 ^ r.length*10)=(n*10)*10 ^ r.length:=by rw[Nat.mul_comm (10 ^ r.length) 10,Nat.mul_assoc]
   rw[this];refine Nat.le_trans (Nat.mul_le_mul_right _ (by omega)) h5
  ·subst h5;simp;omega
theorem Mw{l:Bs}(a: !(l.headD 0==48))(d:0<l.length)(h:bO l 0=true):l.length<=11:=by
 match l,d with
 |c::r,_=>
  rw[bO]at h;simp only[and_eq_true,decide_eq_true_eq,bQ]at h;obtain⟨⟨⟨f,g⟩,i⟩,b⟩:=h;simp only[List.headD_cons,Bool.not_eq_true',beq_eq_false_iff_ne,ne_eq]at a;have j:c.toNat≠48:=λe=>a (UInt8.toNat.inj (by rw[e];rfl));have e:((0:Int)*10+((c.toNat:Int)- 48))=((c.toNat- 48:Nat):Int):=by omega
  rw[e]at b;rcases wU r _ b (by omega)with h6|h6
  ·have:10 ^ r.length<=1000000000:=Nat.le_trans (Nat.le_mul_of_pos_left _ (by omega)) h6;have k:r.length<=10:=by
    rcases Nat.lt_or_ge 10 r.length with hgt|hle
    ·have:10 ^ 11<=10 ^ r.length:=Nat.pow_le_pow_right (by omega) hgt;omega
    ·exact hle
   simp;omega
  ·subst h6;simp
theorem FK{l:Bs}(h:dK l=true):l.length<=18/\Lib.atoi l=some (bA l):=by
 suffices hs:l.length<=18/\∃n,Lib.atoi l=some n by
  obtain⟨d,n,i⟩:=hs;exact⟨d,by rw[bA,i];rfl⟩
 simp only[dK,Bool.or_eq_true,beq_iff_eq,and_eq_true,decide_eq_true_eq]at h;rcases h with rfl|⟨⟨d,h2⟩,h3⟩
 ·exact⟨by simp,⟨0,by decide⟩⟩
 ·have c:=Mw h2 d h3;obtain⟨m,g⟩:=wT (aX l) 0 h3;have a:Lib.decNat (aX l)=some m:=by
   unfold Lib.decNat;rw[if_neg (by intro e;rw[List.isEmpty_iff_length_eq_zero]at e;omega)];exact g
  match l with
  | []=>simp[aX]at d
  |b::r=>
   by_cases hb:b=45
   ·subst hb;have e:aX (45::r)=r:=by simp[aX]
    rw[e]at a c;exact⟨by simp;omega,_,by rw[Lib.atoi,if_pos (by decide),a];rfl⟩
   ·have e:aX (b::r)=b::r:=by simp[aX,hb]
    rw[e]at a c h3;have f:(b==43)=false:=by
     rw[bO]at h3;simp only[and_eq_true,decide_eq_true_eq,bQ]at h3;have:=h3.1.1.1;rw[beq_eq_false_iff_ne];intro e;subst e;simp at this
    exact⟨by omega,_,by rw[Lib.atoi,if_neg (by simpa using hb),if_neg (by rw[f];exact Bool.false_ne_true),a];rfl⟩
theorem Ux(l:Bs):DU bA (aT l) l:=by
 refine⟨λh x=> ?_,λh=> ?_,λh=>OM h⟩
 ·obtain⟨a,b⟩:=FK (Ff h);refine(Tryz.strconv_Atoi (aa l) (bA l) (by rw[aF];exact a) (by simpa[aa]using b) x).mono λe w' ⟨c,t,hw⟩=> ?_;subst hw;exact⟨c,Lib.bytesWorld_below _ _ _⟩
 ·have:=yO h;simp only[cB,and_eq_true,decide_eq_true_eq]at this;exact⟨this.1.1.1.1,this.1.1.1.2⟩
theorem KI(s:Bs)(t:Tr)(h:iW s=some t):Fit (DU bA) t/\uH t<=1000:=vP _ Ux s t h
end Go.Proofs.YtdifpeaklamhnaaGreatDoor
