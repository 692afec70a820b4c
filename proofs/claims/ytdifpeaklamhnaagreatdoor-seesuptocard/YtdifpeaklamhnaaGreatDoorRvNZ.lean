import Derived.Test.YtdifpeaklamhnaaGreatDoorRvHZ
set_option linter.unusedVariables false
set_option linter.unusedSimpArgs false
set_option maxRecDepth 100000
set_option maxHeartbeats 0
namespace Go.Proofs.YtdifpeaklamhnaaGreatDoor
open Go.Proofs.Tryz
open Go.RowKit
open Nat (lt_of_lt_of_le zero_le le_of_lt)
open Below (refl)
variable {qt : Bool}
structure Bu(qt:Bool)(rb:Nat)(x y:World)(g n cap:Nat)(tx:Bs)(bo:Option Addr)(on c2:Nat)(ty:Int):Prop where
 kr:Kr qt rb x y
 b0:y.heap[x.heap.size]? =some (rA g n cap)
 b1:y.heap[x.heap.size+1]? =some (Cy tx true bo on c2 ty)
 b2:y.heap[x.heap.size+1+1]? =some (aI 0 0 ⟨#[]⟩)
section
variable {rb : Nat} {x y z : World} {g n cap : Nat} {tx : Bs} {bo : Option Addr} {on c2 : Nat} {ty : Int}
theorem Bu.ag(h:Bu qt rb x y g n cap tx bo on c2 ty)(k:Kr qt rb y z):Bu qt rb x z g n cap tx bo on c2 ty:=
 ⟨h.kr.trans k,k.cells h.b0 (by decide) (by decide),k.cells h.b1 (by decide) (by decide),k.cells h.b2 (by decide) (by decide)⟩
theorem Bu.drew(h:Bu qt rb x y g n cap tx bo on c2 ty):Bu qt rb x y.drew g n cap tx bo on c2 ty:=⟨h.kr.drew,h.b0,h.b1,h.b2⟩
theorem Bu.kF(h:Bu qt rb x y g n cap tx bo on c2 ty){b:Nat}(a:rb<=x.heap.size)(hb:x.heap.size+1+1<b)(a0 a1 a2:Value):Bu qt rb x (((y.setCell ⟨b,0,none⟩ a0).setCell ⟨b,1,none⟩ a1).setCell ⟨b,2,none⟩ a2) g n cap tx bo on c2 ty:=
 ⟨h.kr.kF a (by omega) _ _ _,(gP _ _ _ _ _ _ (by omega)).trans h.b0,(gP _ _ _ _ _ _ (by omega)).trans h.b1,(gP _ _ _ _ _ _ (by omega)).trans h.b2⟩
theorem Kc(a:rb<=x.heap.size):Bu qt rb x (((x.alloc (rA g n cap)).alloc (Cy tx true bo on c2 ty)).alloc (aI 0 0 ⟨#[]⟩)) g n cap tx bo on c2 ty:=by
 obtain⟨b,c,d⟩:=Ll x (rA g n cap) (Cy tx true bo on c2 ty) (aI 0 0 ⟨#[]⟩);exact⟨Below.kr (dA x _ _ _) a,b,c,d⟩
theorem Bu.cells(h:Bu qt rb x y g n cap tx bo on c2 ty):(x.heap.size<y.heap.size/\x.heap.size+1<y.heap.size/\x.heap.size+1+1<y.heap.size)/\y.cell? ⟨x.heap.size,0,none⟩=some (.slice (some ⟨g,0,none⟩) n cap)/\y.cell? ⟨x.heap.size+1,2,none⟩=some (.slice bo on c2)/\
  (y.cell? ⟨x.heap.size+1+1,0,none⟩=some (.int .i64 0)/\y.cell? ⟨x.heap.size+1+1,1,none⟩=some (.int .i64 0)/\y.cell? ⟨x.heap.size+1+1,2,none⟩=some (.string ⟨#[]⟩))/\(y.frozen? ⟨x.heap.size+1+1,0,none⟩=false/\y.frozen? ⟨x.heap.size+1+1,1,none⟩=false/\y.frozen? ⟨x.heap.size+1+1,2,none⟩=false):=
 ⟨⟨ai h.b0,ai h.b1,ai h.b2⟩,(af h.b0).trans rfl,(bE h.b1).1.2.2.1,aQ h.b2⟩
structure UK(qt:Bool)(rb:Nat)(x wr y:World)(g n cap:Nat)(tx:Bs)(bo:Option Addr)(on c2:Nat)(ty:Int)(fv:Value)(user:Bs)(cv lv:Value)(m1:List Bs)(k:Int)(v:aj)(cb:Nat):Prop where
 vb:Bu qt rb x y g n cap tx bo on c2 ty
 rw:RW y rb fv user cv lv m1 k
 bx:y.heap[cb]? =some (rX v)
 lt:x.heap.size+1+1<cb
end
def JV(val k:Int)(mr:List Bs)(r:Rs):Prop:=(k≠0->r=(dm,k,mr))/\(k=0->(val=1/\r=(dm,0,mr))\/(val=2/\r=(aV true,0,mr))\/(val=0/\r=(aV false,0,mr)))
def wL(nX:Int)(last:aj):Int:=if last=dm then 1 else nX
theorem CP{w0:World}{g cap n i0:Nat}{l:List Tr}{t:Tr}{bo:Option Addr}{c2:Nat}{ty:Int}{is:List Nat}(hN:Qs w0 g i0 t bo c2 ty is l){x:World}{rb:Nat}{M:Value}{c:Bs}{L O:Value}{ns:List Bs}(hR:RW x rb M c L O ns 0)(hB:Below w0.heap.size w0 x)(a9:qt=false->w0.heap.size<=rb){ao:Option Addr}{an ac:Nat}{args:List aj}(hA:iD rb x (.slice ao an ac) args){f:Ev}{b:List Ex}(I:t.ops.length=b.length)(c9:0<b.length)
  (HO:∀(m q:Nat) (h:m<b.length),is[m]? =some q->Qt qt w0 g n cap rb M c L O ao an ac args f q b[m]) (hE:∀e∈b,Bv f e/\e.ty=3) (r:Rs) (hr:tZ f (aV false) (aV true) b ns=some r):
  Calls prog 129 #[.pointer (some ⟨rb,0,none⟩),.agg #[.slice (some ⟨g,0,none⟩) n cap],.agg #[.string ⟨#[97,110,100]⟩,.bool true,.slice bo t.ops.length c2,.int .u8 ty],.slice ao an ac] x λe w'=>gU qt rb M c L O r x e w':=by
 have D:=hR.lt;have e2:b.length<=1000:=by rw[<-I];exact hN.Ou
 have e1:is.length=b.length:=by rw[hN.len,I]
 obtain⟨C,b6,b5,b7,_⟩:=hN.op 0 (is[0]'(by omega)) (List.getElem?_eq_getElem (by omega));subst b6;rw[I]at b7 ⊢;have J:∀(m q:Nat),is[m]? =some q->∀y,Kr qt rb x y->y.cell? ⟨C,m,none⟩=some (.int .i64 (q:Int)):=λm q S y ky=>by
  obtain⟨b',e,_,_,h⟩:=hN.op m q S
  cases e;exact h y (RW.kr hB a9 ky)
 have c8:C<x.heap.size:=lt_of_lt_of_le b5 hB.size;have X:=dA x (rA g n cap) (Cy hAnd true (some ⟨C,0,none⟩) b.length c2 ty) (aI 0 0 ⟨#[]⟩);have hV:=Kc (qt:=qt) (rb:=rb) (x:=x) (g:=g) (n:=n) (cap:=cap) (tx:=hAnd) (bo:=some ⟨C,0,none⟩) (on:=b.length) (c2:=c2) (ty:=ty) (by omega);have K:∀(m q:Nat) (h:m<b.length),is[m]? =some q->∀(y:World) (E:List Bs) (v:aj) (k:Int) (m1:List Bs),f b[m] E=some (v,k,m1)->Kr qt rb x y->RW y rb M c L O E 0->RV rb g n cap q ao an ac y λe w'=>e=.returned (iy v)/\RW w' rb M c L O m1 k/\Kr qt rb y w':=λm q h S y E v k m1 hf ky b4=>HO m q h S y E (v,k,m1) hf b4 (RW.kr hB a9 ky) (hA.Fe ky);have W:=hR.ag X;clear HO hA hN hB hR;go_enter Tryz.func129,Tryz.ntmps129;go_upto_block 0 with fail
 go_cut [10] (λc6 wx=>∃(a3 k:Int) (P:List Bs),c6=.int .i64 a3/\Bu qt rb x wx g n cap hAnd (some ⟨C,0,none⟩) b.length c2 ty/\RW wx rb M c L O P k/\JV a3 k P r)
 case first=>
  have a4:Hid (tZ f (aV false) (aV true) b ns=some r):=hr;clear hr
  go_wp2_with fail
  go_loopg [10,11] b.length (λgk vv iv wr=>∃(i:Nat) (a:aj) (E:List Bs),gk=b.length- i/\i<=b.length/\vv=.int .i64 (wL 2 a)/\iv=.int .i64 (i:Int)/\(a=dm\/a=aV true)/\Bu qt rb x wr g n cap hAnd (some ⟨C,0,none⟩) b.length c2 ty/\RW wr rb M c L O E 0/\Hid (tZ f (aV false) a (b.drop i) E=some r))
  case atStart=>exact⟨0,aV true,ns,rfl,zero_le _,rfl,rfl,.inr rfl,hV,W,a4⟩
  case round=>
   obtain⟨i,a,E,b8,hi,rfl,rfl,Z,p,o,HU⟩:=hrel;subst b8;clear hV W a4 X;obtain⟨⟨l0,l1,l2⟩,a0,n2,⟨r0,r1,r2⟩,b0,b1,b3⟩:=p.cells;have e3:=p.kr.size;by_cases a1:i<b.length
   ·have S:is[i]? =some (is[i]'(by omega)):=List.getElem?_eq_getElem (by omega);obtain⟨q,hq⟩:∃q,q=is[i]'(by omega):=⟨_,rfl⟩;rw[<-hq]at S;clear hq;rw[List.drop_eq_getElem_cons a1]at HU;obtain⟨v,k,m1,Y,a6,a7⟩:=He HU.out;obtain⟨c4,c5⟩:rT 3 v/\(k≠0->v=dm):=by
     have H:=hE b[i] (List.getElem_mem a1);have g:=H.1 E _ Y;rw[H.2]at g;exact g
    have HC:∀y:World,Below wr.heap.size wr y->RV rb g n cap q ao an ac y λe w'=>e=.returned (iy v)/\RW w' rb M c L O m1 k/\Kr qt rb y w':=λy hy=>K i q a1 S y E v k m1 Y (p.kr.trans (Below.kr hy (by omega))) (o.ag hy);have R:Hid (∀y:World,Bu qt rb x y g n cap hAnd (some ⟨C,0,none⟩) b.length c2 ty->y.cell? ⟨x.heap.size,0,none⟩=some (.slice (some ⟨g,0,none⟩) n cap)/\y.cell? ⟨x.heap.size+1,2,none⟩=some (.slice (some ⟨C,0,none⟩) b.length c2)/\y.cell? ⟨C,i,none⟩=some (.int .i64 (q:Int))):=λy hy=>⟨hy.cells.2.1,hy.cells.2.2.1,J i q S y hy.kr⟩;have c0:=J i q S wr p.kr;have e0:C<wr.heap.size:=by omega
    have k3:=heap_alloc_new wr (aI 0 0 ⟨#[]⟩);have U:=(p.ag (Below.kr (ae _ (aI 0 0 ⟨#[]⟩)) (le_of_lt o.lt))).drew;generalize a8:wL 2 a=lvv at*;have T:Hid (wL 2 a=lvv):=a8;clear a8 HU Y hE K J;go_upto_region 8 with fail
    go_cut [12] (λc7 wy=>∃G:Nat,c7=.pointer (some ⟨G,0,none⟩)/\UK qt rb x wr wy g n cap hAnd (some ⟨C,0,none⟩) b.length c2 ty M c L O m1 k v G)
    case first=>
     go_region_held2 (λy=>y.cell? ⟨x.heap.size,0,none⟩=some (.slice (some ⟨g,0,none⟩) n cap)/\y.cell? ⟨x.heap.size+1,2,none⟩=some (.slice (some ⟨C,0,none⟩) b.length c2)/\y.cell? ⟨C,i,none⟩=some (.int .i64 (q:Int))) (first|exact R.out _ p|exact R.out _ p.drew|exact R.out _ U|exact a5|exact R.out _ (u.kF (le_of_lt D) (by omega) _ _ _)|exact R.out _ (u.ag (Below.kr (ae _ _) a2)))
      (first
       |(go_at_call 75;refine(HC _ ?_).mono ?_;exact(ae wr _).drew;rintro e w2 ⟨rfl,hR2,kr2⟩;have u:=U.ag kr2;have a2:=le_of_lt hR2.lt;have N:=kr2.cells k3 (by decide) (by decide);obtain⟨⟨z0,Q,z2⟩,e4,e5,e6⟩:=aQ N;have lz:=ai N;have a5:=R.out _ u)
       |(go_at_call 75;refine(HC _ ?_).mono ?_;exact(refl _ wr).drew;rintro e w2 ⟨rfl,hR2,kr2⟩;have u:=p.drew.ag kr2;have a2:=le_of_lt hR2.lt;have a5:=R.out _ u))
     ·go_wp2_with fail
      go_meet;exact⟨w2.heap.size,rfl,u.ag (Below.kr (ae _ _) a2),hR2.ag (ae _ _),heap_alloc_new _ _,by have:=u.cells.1.2.2;omega⟩
     ·go_wp2_with fail
      go_meet;exact⟨_,rfl,u.kF (le_of_lt D) (by omega) _ _ _,hR2.kF N _ _ _,mH N _ _ _,by omega⟩
    case rest=>
     obtain⟨G,rfl,V⟩:=hcut;obtain⟨⟨z0,Q,z2⟩,_⟩:=aQ V.bx;obtain⟨f5,g5⟩:=V.rw.cells;have c1:=V.rw.lt;have lz:=ai V.bx;have HD:Hid _:=V.vb;have F:Hid _:=V.rw;have A:Hid _:=a6;have B:Hid _:=a7;clear HC R p U o k3 a0 n2 r0 r1 r2 b0 b1 b3 c0 V a6 a7;have z:a=dm/\lvv=1\/a=aV true/\lvv=2:=by
      rcases Z with h|h
      ·exact .inl ⟨h,by rw[<-T.out,h];rfl⟩
      ·exact .inr ⟨h,by rw[<-T.out,h];rfl⟩
     clear T Z;by_cases s:k=0
     ·subst s;rcases c4.three with rfl|⟨d,rfl⟩
      ·replace z0:wc.cell? ⟨G,0,none⟩=some (.int .i64 0):=z0;replace Q:wc.cell? ⟨G,1,none⟩=some (.int .i64 0):=Q;have HN:Hid (tZ f (aV false) dm (b.drop (i+1)) m1=some r):=B.out rfl (by decide);clear A B;rcases z with⟨rfl,rfl⟩|⟨rfl,rfl⟩
       all_goals
        go_wp2_with fail
        go_roundg (b.length- (i+1))
        case rel=>exact⟨i+1,dm,m1,rfl,by omega,rfl,by go_num,.inl rfl,HD.out,F.out,HN⟩
        case measure=>omega
      ·cases d
       ·replace z0:wc.cell? ⟨G,0,none⟩=some (.int .i64 3):=z0;replace Q:wc.cell? ⟨G,1,none⟩=some (.int .i64 0):=Q;have w:Hid (r=(aV false,0,m1)):=A.out (.inr rfl);clear A B;rcases z with⟨rfl,rfl⟩|⟨rfl,rfl⟩
        all_goals
         go_wp2_with fail
         go_meet;exact⟨_,0,m1,rfl,HD.out,F.out,λe=>absurd rfl e,λ_=>.inr (.inr ⟨rfl,w.out⟩)⟩
       ·replace z0:wc.cell? ⟨G,0,none⟩=some (.int .i64 3):=z0;replace Q:wc.cell? ⟨G,1,none⟩=some (.int .i64 1):=Q;have HN:Hid (tZ f (aV false) a (b.drop (i+1)) m1=some r):=B.out rfl (by decide);clear A B;rcases z with⟨rfl,rfl⟩|⟨rfl,rfl⟩
        ·go_wp2_with fail
         go_roundg (b.length- (i+1))
         case rel=>exact⟨i+1,dm,m1,rfl,by omega,rfl,by go_num,.inl rfl,HD.out,F.out,HN⟩
         case measure=>omega
        ·go_wp2_with fail
         go_roundg (b.length- (i+1))
         case rel=>exact⟨i+1,aV true,m1,rfl,by omega,rfl,by go_num,.inr rfl,HD.out,F.out,HN⟩
         case measure=>omega
     ·have b9:(k==0)=false:=by simpa using s
      have c3:=c5 s;subst c3;replace z0:wc.cell? ⟨G,0,none⟩=some (.int .i64 0):=z0;replace Q:wc.cell? ⟨G,1,none⟩=some (.int .i64 0):=Q;have w:Hid (r=(dm,k,m1)):=A.out (.inl s);clear A B;rcases z with⟨rfl,rfl⟩|⟨rfl,rfl⟩
      all_goals
       go_wp2_with fail
       go_meet;exact⟨_,k,m1,rfl,HD.out,F.out,λ_=>w.out,λe=>absurd e s⟩
   ·have w:Hid (r=(a,0,E)):=by
     have:=HU.out;rw[List.drop_of_length_le (by omega),tZ]at this;exact(Option.some.inj this).symm
    have j:JV (wL 2 a) 0 E r:=⟨λe=>absurd rfl e,λ_=>by
     rw[w.out];rcases Z with rfl|rfl
     ·exact .inl ⟨rfl,rfl⟩
     ·exact .inr (.inl ⟨rfl,rfl⟩)⟩
    clear HU w hE K J
    go_wp2_with fail
    go_meet;exact⟨_,0,E,rfl,p,o,j⟩
 case rest=>
  obtain⟨a3,k,P,rfl,p,o,j⟩:=hcut;obtain⟨⟨l0,l1,l2⟩,a0,n2,⟨r0,r1,r2⟩,b0,b1,b3⟩:=p.cells;obtain⟨f5,g5⟩:=o.cells;have c1:=o.lt;clear K hV W X hr hE J;by_cases s:k=0
  ·subst s;rcases j.2 rfl with⟨rfl,H⟩|⟨rfl,H⟩|⟨rfl,H⟩
   ·have w:Hid (r=(dm,0,P)):=H;clear H j
    go_wp2_with fail
    refine bodyPost_ret (v:=.agg #[.int .i64 0,.int .i64 0,.string ⟨#[]⟩]) (by simp[results,Tryz.results129,go_sem,r0,r1,r2]) rfl ?_;rw[w.out];exact gU.end rfl D o p.kr (by omega) p.b2 _ _ _
   ·have w:Hid (r=(aV true,0,P)):=H;have HT:∀y:World,Calls prog 130 #[.bool true] y λe w'=>e=.returned (.agg #[.int .i64 3,.int .i64 1,.string ⟨#[]⟩])/\w'=y.alloc (aI 3 1 ⟨#[]⟩):=bS true;clear H j
    go_wp2_with(go_at_call 130;refine(HT _).mono ?_;rintro e w3 ⟨rfl,rfl⟩)
    refine bodyPost_ret (v:=.agg #[.int .i64 3,.int .i64 1,.string ⟨#[]⟩]) (by simp[results,Tryz.results129,go_sem,r0,r1,r2,l2]) rfl ?_;rw[w.out];have h:=gU.end (r:=(aV true,0,P)) rfl D o p.kr (show x.heap.size<=x.heap.size+1+1 by omega) p.b2 (.int .i64 3) (.int .i64 1) (.string ⟨#[]⟩);exact⟨rfl,h.2.1.ag (ae _ _),h.2.2.trans (Below.kr (ae _ _) (le_of_lt h.2.1.lt))⟩
   ·have w:Hid (r=(aV false,0,P)):=H;have HT:∀y:World,Calls prog 130 #[.bool false] y λe w'=>e=.returned (.agg #[.int .i64 3,.int .i64 0,.string ⟨#[]⟩])/\w'=y.alloc (aI 3 0 ⟨#[]⟩):=bS false;clear H j
    go_wp2_with(go_at_call 130;refine(HT _).mono ?_;rintro e w3 ⟨rfl,rfl⟩)
    refine bodyPost_ret (v:=.agg #[.int .i64 3,.int .i64 0,.string ⟨#[]⟩]) (by simp[results,Tryz.results129,go_sem,r0,r1,r2,l2]) rfl ?_;rw[w.out];have h:=gU.end (r:=(aV false,0,P)) rfl D o p.kr (show x.heap.size<=x.heap.size+1+1 by omega) p.b2 (.int .i64 3) (.int .i64 0) (.string ⟨#[]⟩);exact⟨rfl,h.2.1.ag (ae _ _),h.2.2.trans (Below.kr (ae _ _) (le_of_lt h.2.1.lt))⟩
  ·have b9:(k==0)=false:=by simpa using s
   have w:Hid (r=(dm,k,P)):=j.1 s;clear j
   go_wp2_with fail
   refine bodyPost_ret (v:=.agg #[.int .i64 0,.int .i64 0,.string ⟨#[]⟩]) (by simp[results,Tryz.results129,go_sem,r0,r1,r2]) rfl ?_;rw[w.out];exact gU.end rfl D o p.kr (by omega) p.b2 _ _ _
theorem FY{w0:World}{g cap n i0:Nat}{l:List Tr}{t:Tr}{bo:Option Addr}{c2:Nat}{ty:Int}{is:List Nat}(hN:Qs w0 g i0 t bo c2 ty is l){x:World}{rb:Nat}{M:Value}{c:Bs}{L O:Value}{ns:List Bs}(hR:RW x rb M c L O ns 0)(hB:Below w0.heap.size w0 x)(a9:qt=false->w0.heap.size<=rb){ao:Option Addr}{an ac:Nat}{args:List aj}(hA:iD rb x (.slice ao an ac) args){f:Ev}{b:List Ex}(I:t.ops.length=b.length)(c9:0<b.length)
  (HO:∀(m q:Nat) (h:m<b.length),is[m]? =some q->Qt qt w0 g n cap rb M c L O ao an ac args f q b[m]) (hE:∀e∈b,Bv f e/\e.ty=3) (r:Rs) (hr:tZ f (aV true) (aV false) b ns=some r):
  Calls prog 129 #[.pointer (some ⟨rb,0,none⟩),.agg #[.slice (some ⟨g,0,none⟩) n cap],.agg #[.string ⟨#[111,114]⟩,.bool true,.slice bo t.ops.length c2,.int .u8 ty],.slice ao an ac] x λe w'=>gU qt rb M c L O r x e w':=by
 have D:=hR.lt;have e2:b.length<=1000:=by rw[<-I];exact hN.Ou
 have e1:is.length=b.length:=by rw[hN.len,I]
 obtain⟨C,b6,b5,b7,_⟩:=hN.op 0 (is[0]'(by omega)) (List.getElem?_eq_getElem (by omega));subst b6;rw[I]at b7 ⊢;have J:∀(m q:Nat),is[m]? =some q->∀y,Kr qt rb x y->y.cell? ⟨C,m,none⟩=some (.int .i64 (q:Int)):=λm q S y ky=>by
  obtain⟨b',e,_,_,h⟩:=hN.op m q S
  cases e;exact h y (RW.kr hB a9 ky)
 have c8:C<x.heap.size:=lt_of_lt_of_le b5 hB.size;have X:=dA x (rA g n cap) (Cy hOr true (some ⟨C,0,none⟩) b.length c2 ty) (aI 0 0 ⟨#[]⟩);have hV:=Kc (qt:=qt) (rb:=rb) (x:=x) (g:=g) (n:=n) (cap:=cap) (tx:=hOr) (bo:=some ⟨C,0,none⟩) (on:=b.length) (c2:=c2) (ty:=ty) (by omega);have K:∀(m q:Nat) (h:m<b.length),is[m]? =some q->∀(y:World) (E:List Bs) (v:aj) (k:Int) (m1:List Bs),f b[m] E=some (v,k,m1)->Kr qt rb x y->RW y rb M c L O E 0->RV rb g n cap q ao an ac y λe w'=>e=.returned (iy v)/\RW w' rb M c L O m1 k/\Kr qt rb y w':=λm q h S y E v k m1 hf ky b4=>HO m q h S y E (v,k,m1) hf b4 (RW.kr hB a9 ky) (hA.Fe ky);have W:=hR.ag X;clear HO hA hN hB hR;go_enter Tryz.func129,Tryz.ntmps129;go_upto_block 0 with fail
 go_cut [10] (λc6 wx=>∃(a3 k:Int) (P:List Bs),c6=.int .i64 a3/\Bu qt rb x wx g n cap hOr (some ⟨C,0,none⟩) b.length c2 ty/\RW wx rb M c L O P k/\JV a3 k P r)
 case first=>
  have a4:Hid (tZ f (aV true) (aV false) b ns=some r):=hr;clear hr
  go_wp2_with fail
  go_loopg [10,11] b.length (λgk vv iv wr=>∃(i:Nat) (a:aj) (E:List Bs),gk=b.length- i/\i<=b.length/\vv=.int .i64 (wL 0 a)/\iv=.int .i64 (i:Int)/\(a=dm\/a=aV false)/\Bu qt rb x wr g n cap hOr (some ⟨C,0,none⟩) b.length c2 ty/\RW wr rb M c L O E 0/\Hid (tZ f (aV true) a (b.drop i) E=some r))
  case atStart=>exact⟨0,aV false,ns,rfl,zero_le _,rfl,rfl,.inr rfl,hV,W,a4⟩
  case round=>
   obtain⟨i,a,E,b8,hi,rfl,rfl,Z,p,o,HU⟩:=hrel;subst b8;clear hV W a4 X;obtain⟨⟨l0,l1,l2⟩,a0,n2,⟨r0,r1,r2⟩,b0,b1,b3⟩:=p.cells;have e3:=p.kr.size;by_cases a1:i<b.length
   ·have S:is[i]? =some (is[i]'(by omega)):=List.getElem?_eq_getElem (by omega);obtain⟨q,hq⟩:∃q,q=is[i]'(by omega):=⟨_,rfl⟩;rw[<-hq]at S;clear hq;rw[List.drop_eq_getElem_cons a1]at HU;obtain⟨v,k,m1,Y,a6,a7⟩:=He HU.out;obtain⟨c4,c5⟩:rT 3 v/\(k≠0->v=dm):=by
     have H:=hE b[i] (List.getElem_mem a1);have g:=H.1 E _ Y;rw[H.2]at g;exact g
    have HC:∀y:World,Below wr.heap.size wr y->RV rb g n cap q ao an ac y λe w'=>e=.returned (iy v)/\RW w' rb M c L O m1 k/\Kr qt rb y w':=λy hy=>K i q a1 S y E v k m1 Y (p.kr.trans (Below.kr hy (by omega))) (o.ag hy);have R:Hid (∀y:World,Bu qt rb x y g n cap hOr (some ⟨C,0,none⟩) b.length c2 ty->y.cell? ⟨x.heap.size,0,none⟩=some (.slice (some ⟨g,0,none⟩) n cap)/\y.cell? ⟨x.heap.size+1,2,none⟩=some (.slice (some ⟨C,0,none⟩) b.length c2)/\y.cell? ⟨C,i,none⟩=some (.int .i64 (q:Int))):=λy hy=>⟨hy.cells.2.1,hy.cells.2.2.1,J i q S y hy.kr⟩;have c0:=J i q S wr p.kr;have e0:C<wr.heap.size:=by omega
    have k3:=heap_alloc_new wr (aI 0 0 ⟨#[]⟩);have U:=(p.ag (Below.kr (ae _ (aI 0 0 ⟨#[]⟩)) (le_of_lt o.lt))).drew;generalize a8:wL 0 a=lvv at*;have T:Hid (wL 0 a=lvv):=a8;clear a8 HU Y hE K J;go_upto_region 8 with fail
    go_cut [12] (λc7 wy=>∃G:Nat,c7=.pointer (some ⟨G,0,none⟩)/\UK qt rb x wr wy g n cap hOr (some ⟨C,0,none⟩) b.length c2 ty M c L O m1 k v G)
    case first=>
     go_region_held2 (λy=>y.cell? ⟨x.heap.size,0,none⟩=some (.slice (some ⟨g,0,none⟩) n cap)/\y.cell? ⟨x.heap.size+1,2,none⟩=some (.slice (some ⟨C,0,none⟩) b.length c2)/\y.cell? ⟨C,i,none⟩=some (.int .i64 (q:Int))) (first|exact R.out _ p|exact R.out _ p.drew|exact R.out _ U|exact a5|exact R.out _ (u.kF (le_of_lt D) (by omega) _ _ _)|exact R.out _ (u.ag (Below.kr (ae _ _) a2)))
      (first
       |(go_at_call 75;refine(HC _ ?_).mono ?_;exact(ae wr _).drew;rintro e w2 ⟨rfl,hR2,kr2⟩;have u:=U.ag kr2;have a2:=le_of_lt hR2.lt;have N:=kr2.cells k3 (by decide) (by decide);obtain⟨⟨z0,Q,z2⟩,e4,e5,e6⟩:=aQ N;have lz:=ai N;have a5:=R.out _ u)
       |(go_at_call 75;refine(HC _ ?_).mono ?_;exact(refl _ wr).drew;rintro e w2 ⟨rfl,hR2,kr2⟩;have u:=p.drew.ag kr2;have a2:=le_of_lt hR2.lt;have a5:=R.out _ u))
     ·go_wp2_with fail
      go_meet;exact⟨w2.heap.size,rfl,u.ag (Below.kr (ae _ _) a2),hR2.ag (ae _ _),heap_alloc_new _ _,by have:=u.cells.1.2.2;omega⟩
     ·go_wp2_with fail
      go_meet;exact⟨_,rfl,u.kF (le_of_lt D) (by omega) _ _ _,hR2.kF N _ _ _,mH N _ _ _,by omega⟩
    case rest=>
     obtain⟨G,rfl,V⟩:=hcut;obtain⟨⟨z0,Q,z2⟩,_⟩:=aQ V.bx;obtain⟨f5,g5⟩:=V.rw.cells;have c1:=V.rw.lt;have lz:=ai V.bx;have HD:Hid _:=V.vb;have F:Hid _:=V.rw;have A:Hid _:=a6;have B:Hid _:=a7;clear HC R p U o k3 a0 n2 r0 r1 r2 b0 b1 b3 c0 V a6 a7;have z:a=dm/\lvv=1\/a=aV false/\lvv=0:=by
      rcases Z with h|h
      ·exact .inl ⟨h,by rw[<-T.out,h];rfl⟩
      ·exact .inr ⟨h,by rw[<-T.out,h];rfl⟩
     clear T Z;by_cases s:k=0
     ·subst s;rcases c4.three with rfl|⟨d,rfl⟩
      ·replace z0:wc.cell? ⟨G,0,none⟩=some (.int .i64 0):=z0;replace Q:wc.cell? ⟨G,1,none⟩=some (.int .i64 0):=Q;have HN:Hid (tZ f (aV true) dm (b.drop (i+1)) m1=some r):=B.out rfl (by decide);clear A B;rcases z with⟨rfl,rfl⟩|⟨rfl,rfl⟩
       all_goals
        go_wp2_with fail
        go_roundg (b.length- (i+1))
        case rel=>exact⟨i+1,dm,m1,rfl,by omega,rfl,by go_num,.inl rfl,HD.out,F.out,HN⟩
        case measure=>omega
      ·cases d
       ·replace z0:wc.cell? ⟨G,0,none⟩=some (.int .i64 3):=z0;replace Q:wc.cell? ⟨G,1,none⟩=some (.int .i64 0):=Q;have HN:Hid (tZ f (aV true) a (b.drop (i+1)) m1=some r):=B.out rfl (by decide);clear A B;rcases z with⟨rfl,rfl⟩|⟨rfl,rfl⟩
        ·go_wp2_with fail
         go_roundg (b.length- (i+1))
         case rel=>exact⟨i+1,dm,m1,rfl,by omega,rfl,by go_num,.inl rfl,HD.out,F.out,HN⟩
         case measure=>omega
        ·go_wp2_with fail
         go_roundg (b.length- (i+1))
         case rel=>exact⟨i+1,aV false,m1,rfl,by omega,rfl,by go_num,.inr rfl,HD.out,F.out,HN⟩
         case measure=>omega
       ·replace z0:wc.cell? ⟨G,0,none⟩=some (.int .i64 3):=z0;replace Q:wc.cell? ⟨G,1,none⟩=some (.int .i64 1):=Q;have w:Hid (r=(aV true,0,m1)):=A.out (.inr rfl);clear A B;rcases z with⟨rfl,rfl⟩|⟨rfl,rfl⟩
        all_goals
         go_wp2_with fail
         go_meet;exact⟨_,0,m1,rfl,HD.out,F.out,λe=>absurd rfl e,λ_=>.inr (.inl ⟨rfl,w.out⟩)⟩
     ·have b9:(k==0)=false:=by simpa using s
      have c3:=c5 s;subst c3;replace z0:wc.cell? ⟨G,0,none⟩=some (.int .i64 0):=z0;replace Q:wc.cell? ⟨G,1,none⟩=some (.int .i64 0):=Q;have w:Hid (r=(dm,k,m1)):=A.out (.inl s);clear A B;rcases z with⟨rfl,rfl⟩|⟨rfl,rfl⟩
      all_goals
       go_wp2_with fail
       go_meet;exact⟨_,k,m1,rfl,HD.out,F.out,λ_=>w.out,λe=>absurd e s⟩
   ·have w:Hid (r=(a,0,E)):=by
     have:=HU.out;rw[List.drop_of_length_le (by omega),tZ]at this;exact(Option.some.inj this).symm
    have j:JV (wL 0 a) 0 E r:=⟨λe=>absurd rfl e,λ_=>by
     rw[w.out];rcases Z with rfl|rfl
     ·exact .inl ⟨rfl,rfl⟩
     ·exact .inr (.inr ⟨rfl,rfl⟩)⟩
    clear HU w hE K J
    go_wp2_with fail
    go_meet;exact⟨_,0,E,rfl,p,o,j⟩
 case rest=>
  obtain⟨a3,k,P,rfl,p,o,j⟩:=hcut;obtain⟨⟨l0,l1,l2⟩,a0,n2,⟨r0,r1,r2⟩,b0,b1,b3⟩:=p.cells;obtain⟨f5,g5⟩:=o.cells;have c1:=o.lt;clear K hV W X hr hE J;by_cases s:k=0
  ·subst s;rcases j.2 rfl with⟨rfl,H⟩|⟨rfl,H⟩|⟨rfl,H⟩
   ·have w:Hid (r=(dm,0,P)):=H;clear H j
    go_wp2_with fail
    refine bodyPost_ret (v:=.agg #[.int .i64 0,.int .i64 0,.string ⟨#[]⟩]) (by simp[results,Tryz.results129,go_sem,r0,r1,r2]) rfl ?_;rw[w.out];exact gU.end rfl D o p.kr (by omega) p.b2 _ _ _
   ·have w:Hid (r=(aV true,0,P)):=H;have HT:∀y:World,Calls prog 130 #[.bool true] y λe w'=>e=.returned (.agg #[.int .i64 3,.int .i64 1,.string ⟨#[]⟩])/\w'=y.alloc (aI 3 1 ⟨#[]⟩):=bS true;clear H j
    go_wp2_with(go_at_call 130;refine(HT _).mono ?_;rintro e w3 ⟨rfl,rfl⟩)
    refine bodyPost_ret (v:=.agg #[.int .i64 3,.int .i64 1,.string ⟨#[]⟩]) (by simp[results,Tryz.results129,go_sem,r0,r1,r2,l2]) rfl ?_;rw[w.out];have h:=gU.end (r:=(aV true,0,P)) rfl D o p.kr (show x.heap.size<=x.heap.size+1+1 by omega) p.b2 (.int .i64 3) (.int .i64 1) (.string ⟨#[]⟩);exact⟨rfl,h.2.1.ag (ae _ _),h.2.2.trans (Below.kr (ae _ _) (le_of_lt h.2.1.lt))⟩
   ·have w:Hid (r=(aV false,0,P)):=H;have HT:∀y:World,Calls prog 130 #[.bool false] y λe w'=>e=.returned (.agg #[.int .i64 3,.int .i64 0,.string ⟨#[]⟩])/\w'=y.alloc (aI 3 0 ⟨#[]⟩):=bS false;clear H j
    go_wp2_with(go_at_call 130;refine(HT _).mono ?_;rintro e w3 ⟨rfl,rfl⟩)
    refine bodyPost_ret (v:=.agg #[.int .i64 3,.int .i64 0,.string ⟨#[]⟩]) (by simp[results,Tryz.results129,go_sem,r0,r1,r2,l2]) rfl ?_;rw[w.out];have h:=gU.end (r:=(aV false,0,P)) rfl D o p.kr (show x.heap.size<=x.heap.size+1+1 by omega) p.b2 (.int .i64 3) (.int .i64 0) (.string ⟨#[]⟩);exact⟨rfl,h.2.1.ag (ae _ _),h.2.2.trans (Below.kr (ae _ _) (le_of_lt h.2.1.lt))⟩
  ·have b9:(k==0)=false:=by simpa using s
   have w:Hid (r=(dm,k,P)):=j.1 s;clear j
   go_wp2_with fail
   refine bodyPost_ret (v:=.agg #[.int .i64 0,.int .i64 0,.string ⟨#[]⟩]) (by simp[results,Tryz.results129,go_sem,r0,r1,r2]) rfl ?_;rw[w.out];exact gU.end rfl D o p.kr (by omega) p.b2 _ _ _
variable {qt : Bool}
theorem Jm{w0:World}{g cap n i:Nat}{l:List Tr}{t:Tr}{bo:Option Addr}{c2:Nat}{ty:Int}{is:List Nat}(E:Qs w0 g i t bo c2 ty is l)(U:i<n){x:World}{rb:Nat}{D:Value}{a:Bs}{C G:Value}{ns:List Bs}(F:RW x rb D a C G ns 0)(k:Below w0.heap.size w0 x)(H:qt=false->w0.heap.size<=rb){B:Option Addr}{A w:Nat}{args:List aj}(O:iD rb x (.slice B A w) args)(p:t.br=true)(u:t.tx=hAnd){f:Ev}{j:List Ex}(b:t.ops.length=j.length)(s:0<j.length)
  (L:∀(m q:Nat) (h:m<j.length),is[m]? =some q->Qt qt w0 g n cap rb D a C G B A w args f q j[m]) (P:∀e∈j,Bv f e/\e.ty=3) (r:Rs) (R:tZ f (aV false) (aV true) j ns=some r):
  RV rb g n cap i B A w x λe w'=>gU qt rb D a C G r x e w':=by
 obtain⟨S,q1,q2,q3⟩:=E.at' _ (k.trans ((az x (rA g n cap) (aI 0 0 ⟨#[]⟩)).mono k.size));have hg:g<x.heap.size:=lt_of_lt_of_le E.lt k.size;have I:=F.lt;have K:∀y:World,Below x.heap.size x y->Calls prog 129 #[.pointer (some ⟨rb,0,none⟩),.agg #[.slice (some ⟨g,0,none⟩) n cap],.agg #[.string ⟨#[97,110,100]⟩,.bool true,.slice bo t.ops.length c2,.int .u8 ty],.slice B A w] y λe w'=>gU qt rb D a C G r y e w':=λy J=>
  CP E (F.ag J) (k.trans (J.mono k.size)) H (O.ag J) b s L P r R
 have o:=dA x (rA g n cap) (aI 0 0 ⟨#[]⟩) (Cy hAnd true bo t.ops.length c2 ty);have Q:=oZ (qt:=qt) (rb:=rb) (x:=x) (by omega) g n cap hAnd true bo t.ops.length c2 ty;obtain⟨f5,N⟩:=(F.ag o).cells;rw[p]at q1;rw[u]at S;have M:aa hAnd=⟨#[97,110,100]⟩:=rfl;rw[M]at S;simp only[Cy,M]at f5 N;obtain⟨on,d⟩:∃z,z=t.ops.length:=⟨_,rfl⟩;rw[<-d]at f5 N o K Q;rw[<-d]at q2;clear d E F O k L P R u p b;go_enter Tryz.func75,Tryz.ntmps75
 go_wp2_with(go_at_call 129;refine(K _ ?_).mono ?_;exact dA x _ _ _;rintro e w5 ⟨rfl,hR5,kr5⟩;have c:=Q.ag kr5;obtain⟨⟨m0,V,m2⟩,T,⟨W,X,Y,Z⟩,⟨r0,r1,r2⟩,a0,a1,a2⟩:=c.cells)
 refine bodyPost_ret (v:=.agg #[.int .i64 r.1.1,.int .i64 r.1.2.1,.string (aa r.1.2.2)]) (by simp[results,Tryz.results75,go_sem,r0,r1,r2]) rfl ?_;exact gU.end rfl I hR5 c.kr (by omega) c.b1 _ _ _
theorem ML{w0:World}{g cap n i:Nat}{l:List Tr}{t:Tr}{bo:Option Addr}{c2:Nat}{ty:Int}{is:List Nat}(E:Qs w0 g i t bo c2 ty is l)(U:i<n){x:World}{rb:Nat}{D:Value}{a:Bs}{C G:Value}{ns:List Bs}(F:RW x rb D a C G ns 0)(k:Below w0.heap.size w0 x)(H:qt=false->w0.heap.size<=rb){B:Option Addr}{A w:Nat}{args:List aj}(O:iD rb x (.slice B A w) args)(p:t.br=true)(u:t.tx=hOr){f:Ev}{j:List Ex}(b:t.ops.length=j.length)(s:0<j.length)
  (L:∀(m q:Nat) (h:m<j.length),is[m]? =some q->Qt qt w0 g n cap rb D a C G B A w args f q j[m]) (P:∀e∈j,Bv f e/\e.ty=3) (r:Rs) (R:tZ f (aV true) (aV false) j ns=some r):
  RV rb g n cap i B A w x λe w'=>gU qt rb D a C G r x e w':=by
 obtain⟨S,q1,q2,q3⟩:=E.at' _ (k.trans ((az x (rA g n cap) (aI 0 0 ⟨#[]⟩)).mono k.size));have hg:g<x.heap.size:=lt_of_lt_of_le E.lt k.size;have I:=F.lt;have K:∀y:World,Below x.heap.size x y->Calls prog 129 #[.pointer (some ⟨rb,0,none⟩),.agg #[.slice (some ⟨g,0,none⟩) n cap],.agg #[.string ⟨#[111,114]⟩,.bool true,.slice bo t.ops.length c2,.int .u8 ty],.slice B A w] y λe w'=>gU qt rb D a C G r y e w':=λy J=>
  FY E (F.ag J) (k.trans (J.mono k.size)) H (O.ag J) b s L P r R
 have o:=dA x (rA g n cap) (aI 0 0 ⟨#[]⟩) (Cy hOr true bo t.ops.length c2 ty);have Q:=oZ (qt:=qt) (rb:=rb) (x:=x) (by omega) g n cap hOr true bo t.ops.length c2 ty;obtain⟨f5,N⟩:=(F.ag o).cells;rw[p]at q1;rw[u]at S;have M:aa hOr=⟨#[111,114]⟩:=rfl;rw[M]at S;simp only[Cy,M]at f5 N;obtain⟨on,d⟩:∃z,z=t.ops.length:=⟨_,rfl⟩;rw[<-d]at f5 N o K Q;rw[<-d]at q2;clear d E F O k L P R u p b;go_enter Tryz.func75,Tryz.ntmps75
 go_wp2_with(go_at_call 129;refine(K _ ?_).mono ?_;exact dA x _ _ _;rintro e w5 ⟨rfl,hR5,kr5⟩;have c:=Q.ag kr5;obtain⟨⟨m0,V,m2⟩,T,⟨W,X,Y,Z⟩,⟨r0,r1,r2⟩,a0,a1,a2⟩:=c.cells)
 refine bodyPost_ret (v:=.agg #[.int .i64 r.1.1,.int .i64 r.1.2.1,.string (aa r.1.2.2)]) (by simp[results,Tryz.results75,go_sem,r0,r1,r2]) rfl ?_;exact gU.end rfl I hR5 c.kr (by omega) c.b1 _ _ _
variable {qt : Bool}
theorem RW.move{w x:World}{rb:Nat}{f:Value}{a:Bs}{d n:Value}{ns:List Bs}{k:Int}(h:RW w rb f a d n ns k)(m:∀(g:Nat) (b:Array Value) (T:TypeId) (o:Nat × Nat),w.heap[g]? =some (.cells b T o)->T=9\/T=232->x.heap[g]? =w.heap[g]?):RW x rb f a d n ns k:=by
 obtain⟨s,r,q,i,j⟩:=h;refine⟨s,r,q,(m _ _ _ _ i (.inr rfl)).trans i,aA j λg l=> ?_⟩;rcases j.2 with⟨e,_⟩|⟨t,cap,c,e,_,p,_⟩
 ·cases e;cases l
 ·cases e;cases l;exact m _ _ _ _ p (.inl rfl)
theorem RW.grown{w x y:World}{rb:Nat}{j:Value}{a:Bs}{i m:Value}{ns:List Bs}{k:Int}(h:RW w rb j a i m ns k)(hb:Below w.heap.size w x){v:Value}{b n size:Nat}{s:List Value}(q:w.ownsRow b 56 size v n s)(p:x.grownBy y v.ownBlock):RW y rb j a i m ns k:=by
 refine(h.ag hb).move λg o T t e r=>p.block g (ai e) λc=> ?_;rcases q.2 with⟨d,_⟩|⟨u,cap,f,d,_,l,_⟩
 ·rw[d]at c;cases c
 ·rw[d]at c;cases c;have:=(hb.block _ (ai l)).trans l;rw[e]at this;cases this;rcases r with h|h<;>cases h
theorem lC.more{rb:Nat}{x y z:World}{g n cap:Nat}{tx:Bs}{a:Bool}{bo:Option Addr}{on c2:Nat}{ty:Int}(h:lC qt rb x y g n cap tx a bo on c2 ty)(b:rb<=x.heap.size)(hb:Below (x.heap.size+3) y z):lC qt rb x z g n cap tx a bo on c2 ty:=
 ⟨h.kr.more b (hb.mono (by omega)),(hb.block _ (by omega)).trans h.b0,(hb.block _ (by omega)).trans h.b1,(hb.block _ (by omega)).trans h.b2⟩
theorem Bl{rb:Nat}{w x:World}{b size n:Nat}{T:TypeId}{v:Value}{d:List Value}(h:w.ownsRow b T size v n d)(k:Kr qt rb w x)(t1:T≠9)(t2:T≠232):x.ownsRow b T size v n d:=aA h λg a=>by
 rcases h.2 with⟨e,_⟩|⟨i,cap,f,e,_,c,_⟩
 ·rw[e]at a;cases a
 ·rw[e]at a;cases a;exact(k.cells c t1 t2).trans c.symm
def NA(fv:Value)(user:Bs)(cv lv:Value)(rb:Nat)(cs:List aj)(k:Int)(n1:List Bs)(wx:World)(v:Value)(bn:Bool):Prop:=RW wx rb fv user cv lv n1 k/\(k=0->lZ wx v cs/\bn=bF cs)
def Hq(f:Ev)(es:List Ex)(fv:Value)(user:Bs)(cv lv:Value)(rb:Nat)(cs:List aj)(k:Int)(n1:List Bs)(wx:World)(i:Nat)(d:List aj)(bn:Bool):Prop:=(∃ni,RW wx rb fv user cv lv ni 0/\su d (gJ f (es.drop i) ni)=some (cs,k,n1)/\bn=bF d)\/(k≠0/\RW wx rb fv user cv lv n1 k)
theorem Ea(d:List aj)(v:aj):bF (d++ [v])=(bF d||(v.1==0)):=by
 induction d with
 |nil=>simp[bF]
 |cons c d ih=>simp[bF,ih,Bool.or_assoc]
theorem Mt{x wc w2 h:World}{rb g n cap:Nat}{tx:Bs}{M:Bool}{bo:Option Addr}{on c2:Nat}{ty:Int}{J:Value}{k:Bs}{I L:Value}{E:Option Addr}{D C:Nat}{ns:List Bs}{f:Bs}{o:Obj}{v':Value}(p:lC false rb x wc g n cap tx M bo on c2 ty)(P:rb<x.heap.size)(w:wc.heap[rb]? =some (.cells #[J,.string (aa k),I,L,.slice E D C,.int .i64 0] 232 (0,0)))(j:wc.ownsRow (rb+1) 9 1 (.slice E D C) ns.length (rJ ns))(b:Below wc.heap.size wc w2)(y:(w2.alloc o).grownBy h (Value.slice E D C).ownBlock)(G:h.ownsRow (rb+1) 9 1 v' (ns.length+1) (rJ ns++ [.string (aa f)])):
  (∀(g:Nat) (a:Array Value) (T:TypeId) (c:Nat × Nat),wc.heap[g]? =some (.cells a T c)->T≠9->h.heap[g]? =some (.cells a T c))/\∀a0 a1 a2:Value,RW ((((h.setCell ⟨rb,4,none⟩ v').setCell ⟨x.heap.size+1,0,none⟩ a0).setCell ⟨x.heap.size+1,1,none⟩ a1).setCell ⟨x.heap.size+1,2,none⟩ a2) rb J k I L (ns++ [f]) 0/\Kf rb x ((((h.setCell ⟨rb,4,none⟩ v').setCell ⟨x.heap.size+1,0,none⟩ a0).setCell ⟨x.heap.size+1,1,none⟩ a1).setCell ⟨x.heap.size+1,2,none⟩ a2):=by
 have Q:=b.size;have ag:∀g,g<wc.heap.size->(Value.slice E D C).ownBlock≠some g->h.heap[g]? =wc.heap[g]? :=λg m F=>
  (y.block g (by simp only[World.size_alloc];omega) (λe=>F e.symm)).trans (((ae w2 o).block g (by omega)).trans (b.block g m))
 have d:∀(g:Nat) (a:Array Value) (T:TypeId) (c:Nat × Nat),wc.heap[g]? =some (.cells a T c)->T≠9->h.heap[g]? =some (.cells a T c):=λg a T c e N=>by
  refine(ag g (ai e) λA=> ?_).trans e;rcases j.2 with⟨v,_⟩|⟨K,cap,i,v,_,u,_⟩
  ·rw[v]at A;cases A
  ·rw[v]at A;cases A;rw[u]at e;cases e;exact N rfl
 have kr:=d rb _ _ _ w (by decide);have S:=d _ _ _ _ p.b1 (by decide);refine⟨d,λa0 a1 a2=> ?_⟩;have l:∀g,g≠rb->g≠x.heap.size+1->((((h.setCell ⟨rb,4,none⟩ v').setCell ⟨x.heap.size+1,0,none⟩ a0).setCell ⟨x.heap.size+1,1,none⟩ a1).setCell ⟨x.heap.size+1,2,none⟩ a2).heap[g]? =h.heap[g]? :=λg m F=>by
  rw[gP _ _ _ _ _ _ F,Below.heap_setCell _ _ _ _ m]
 have z:∃t s r,v'=.slice t s r:=by
  rcases G.2 with⟨e,_⟩|⟨K,cap,i,e,_⟩<;>exact⟨_,_,_,e⟩
 obtain⟨t,s,r,rfl⟩:=z;have R:=p.kr.size;have H:=y.size;simp only[World.size_alloc]at H;refine⟨⟨t,s,r, ?_, ?_⟩,⟨?_, ?_, ?_, ?_, ?_⟩,λg a T c e t1 t2=> ?_⟩
 ·rw[gP _ _ _ _ _ _ (by omega)];simp[World.setCell,Array.getElem?_modify,kr]
 ·have e:rJ (ns++ [f])=rJ ns++ [.string (aa f)]:=by simp[rJ]
  rw[e,List.length_append];refine aA G λq B=> ?_;rcases G.2 with⟨e,_⟩|⟨K,cap,i,e,_,u,_⟩
  ·cases e;cases B
  ·cases e;cases B;exact l _ (λe=>by subst e;rw[kr]at u;cases u) (λe=>by subst e;rw[S]at u;cases u)
 ·exact y.os.trans (b.os.trans p.kr.kf.1.os)
 ·exact y.tape.trans (b.tape.trans p.kr.kf.1.tape)
 ·exact y.output.trans (b.output.trans p.kr.kf.1.output)
 ·simp only[World.size_setCell];omega
 ·intro q B;rw[l q (by omega) (by omega),ag q (by omega) (λe=>by have:=(j.lt _ e).1;omega)];exact p.kr.kf.1.block q B
 ·have O:=ai e;have m:=p.kr.kf.2 g a T c e t1 t2;refine(l g (λv=> ?_) (by omega)).trans (d g a T c m t1);subst v;rw[w]at m;cases m;exact t2 rfl
variable {qt : Bool}
def Sv(qt:Bool)(rfs:List RF)(cs:List aj)(n1:List Bs)(r:Rs)(rb:Nat)(fv:Value)(user:Bs)(cv lv:Value)(x:World)(tx:Bs):Prop:=
 (∃(j:Nat) (rf:RF),bB (RF.list rfs) tx=some j/\rfs[j]? =some rf/\∀(g n cap:Nat) (y:World) (lo:Option Addr) (ln lc:Nat),Kr qt rb x y->(∃b fn fc,fv=.slice (some ⟨b,0,none⟩) fn fc/\y.cell? ⟨b,j*5+2,none⟩=some (.slice (some ⟨g,0,none⟩) n cap))->RW y rb fv user cv lv n1 0->lZ y (.slice lo ln lc) cs->RV rb g n cap (n- 1) lo ln lc y λe w'=>gU qt rb fv user cv lv r y e w')\/
 (bB (RF.list rfs) tx=none/\((tx=oH/\r=(aV (bF cs),0,n1))\/(tx=nz/\qt=false/\∃c,cs= [c]/\SX c=true/\aY c.2.1=true/\n1.length<=1000000/\r=(c,0,n1++ [ku c]))\/
  (tx≠oH/\tx≠nz/\((bF cs=true/\r=(dm,0,n1))\/(bF cs=false/\∀(y:World) (v:Value),aO y v cs->RW y rb fv user cv lv n1 0->Calls prog 132 #[.pointer (some ⟨rb,0,none⟩),.string (aa tx),v] y λe w'=>gU qt rb fv user cv lv r y e w')))))
theorem zu{w0:World}{g cap n i0:Nat}{l:List Tr}{t:Tr}{bo:Option Addr}{c2:Nat}{ty:Int}{is:List Nat}(hN:Qs w0 g i0 t bo c2 ty is l)(p9:i0<n){x:World}{rb:Nat}{fv:Value}{a:Bs}{O P:Value}{ns:List Bs}(hR:RW x rb fv a O P ns 0)(hB:Below w0.heap.size w0 x)(e4:qt=false->w0.heap.size<=rb){ao:Option Addr}{an ac:Nat}{args:List aj}(hA:iD rb x (.slice ao an ac) args)(j9:t.br=true)(G:t.tx≠hAnd)(e8:t.tx≠hOr)(e9:t.tx≠xH){f:Ev}{B:List Ex}(a3:t.ops.length=B.length)
  (HO:∀(m q:Nat) (h:m<B.length),is[m]? =some q->Qt qt w0 g n cap rb fv a O P ao an ac args f q B[m]) (HF:∀(m q:Nat),is[m]? =some q->VJ w0 g n cap rb fv a O P ao an ac q) (cs:List aj) (k:Int) (S:List Bs) (hv:gJ f B ns=some (cs,k,S)) (r:Rs) (h3:k≠0->r=(dm,k,S)) {T:Option Addr} {o Q:Nat} (k5:fv=.slice T o Q) {b8:List RF} (i7:jk w0 fv b8) (hT:k=0->Sv qt b8 cs S r rb fv a O P x t.tx):
  RV rb g n cap i0 ao an ac x λe w'=>gU qt rb fv a O P r x e w':=by
 subst k5;obtain⟨n4,k7,m7,m8,m9⟩:=info_parts yM;obtain⟨q0,q1,q2,q3⟩:=hN.at' _ (hB.trans ((az x (rA g n cap) (aI 0 0 ⟨#[]⟩)).mono hB.size));have hg:g<x.heap.size:=lt_of_lt_of_le hN.lt hB.size;have K:=hR.lt;have q9:B.length<=1000:=by rw[<-a3];exact hN.Ou
 have p8:is.length=B.length:=by rw[hN.len,a3]
 have s:=dA x (rA g n cap) (aI 0 0 ⟨#[]⟩) (Cy t.tx true bo B.length c2 ty);have hV:=oZ (qt:=qt) (rb:=rb) (x:=x) (by omega) g n cap t.tx true bo B.length c2 ty;obtain⟨f5,g5⟩:=(hR.ag s).cells;rw[j9]at q1;rw[a3]at q2;have t1:((aa t.tx).toList== [97,110,100])=false:=by rw[au];exact beq_eq_false_iff_ne.mpr G
 have t2:((aa t.tx).toList== [111,114])=false:=by rw[au];exact beq_eq_false_iff_ne.mpr e8
 have t3:((aa t.tx).toList== [105,102])=false:=by rw[au];exact beq_eq_false_iff_ne.mpr e9
 have HB:Hid (∀y,Kr qt rb x y->Below w0.heap.size w0 y):=λy ky=>RW.kr hB e4 ky;have c9:∀(m q:Nat),is[m]? =some q->∃bb,bo=some ⟨bb,0,none⟩/\bb<x.heap.size/\B.length<=c2/\∀y,Kr qt rb x y->y.cell? ⟨bb,m,none⟩=some (.int .i64 (q:Int)):=λm q hm=>by
  obtain⟨b',e,h1,h2,h⟩:=hN.op m q hm;exact⟨b',e,lt_of_lt_of_le h1 hB.size,by rw[<-a3];exact h2,λy ky=>h y (RW.kr hB e4 ky)⟩
 have c6:∀(m q:Nat) (h:m<B.length),is[m]? =some q->∀(y:World) (ni:List Bs) (v:aj) (kk:Int) (m1:List Bs),f B[m] ni=some (v,kk,m1)->Kr qt rb x y->RW y rb (.slice T o Q) a O P ni 0->RV rb g n cap q ao an ac y λe w'=>e=.returned (iy v)/\RW w' rb (.slice T o Q) a O P m1 kk/\Kr qt rb y w':=λm q h hm y ni v kk m1 hf ky b2=>HO m q h hm y ni (v,kk,m1) hf b2 (RW.kr hB e4 ky) (hA.Fe ky);have b9:∀(m q:Nat),is[m]? =some q->∀(y:World),k≠0->Kr qt rb x y->RW y rb (.slice T o Q) a O P S k->RV rb g n cap q ao an ac y λe w'=>e=.returned (iy dm)/\RW w' rb (.slice T o Q) a O P S k/\Kr qt rb y w':=λm q hm y hk ky b2=>(HF m q hm y S k hk b2 (RW.kr hB e4 ky)).mono λe w' ⟨h1,h2⟩=>⟨h1,b2.ag h2,Below.kr h2 (le_of_lt b2.lt)⟩;have c8:=hR.ag s;have hJ:=Mc hv;obtain⟨tx,a7⟩:∃z,z=t.tx:=⟨_,rfl⟩;rw[<-a7]at f5 g5 s hV q0 t1 t2 t3 c8 hT;clear HO HF hA hN hB hR G e8 e9 a7 hv;go_enter Tryz.func75,Tryz.ntmps75;go_upto_block 1 with fail
 go_cut [11,12] (λn8 n9 wx=>∃(lo:Option Addr) (ln lc:Nat) (I:Bool),n8=.slice lo ln lc/\n9=.bool I/\lC qt rb x wx g n cap tx true bo B.length c2 ty/\NA (.slice T o Q) a O P rb cs k S wx (.slice lo ln lc) I)
 case first=>
  go_wp2_with fail
  go_loopg [11,12,13] B.length (λgk o3 o4 iv wr=>∃(i kn kc:Nat) (ko:Option Addr) (d:List aj) (I:Bool),gk=B.length- i/\i<=B.length/\d.length=i/\o3=.slice ko kn kc/\o4=.bool I/\iv=.int .i64 (i:Int)/\wr.ownsRow (x.heap.size+3) 56 3 (.slice ko kn kc) i (jK d)/\lC qt rb x wr g n cap tx true bo B.length c2 ty/\Hid (Hq f B (.slice T o Q) a O P rb cs k S wr i d I))
  case atStart=>exact⟨0,0,0,none,[],false,rfl,zero_le _,rfl,rfl,rfl,rfl,World.ownsRow_nil _ _ _ _,hV,.inl ⟨ns,c8,hJ,rfl⟩⟩
  case round=>
   obtain⟨i,kn,kc,ko,d,I,k6,hi,hd,rfl,rfl,rfl,a1,J,HN⟩:=hrel;subst k6;clear hV c8 hJ s f5 g5 q0 q1 q2 q3;obtain⟨⟨l0,l1,l2⟩,a0,⟨n0,G,n2,n3⟩,⟨r0,r1,r2⟩,L,M,N⟩:=J.cells;have r5:=J.kr.size;by_cases i4:i<B.length
   ·have hm:is[i]? =some (is[i]'(by omega)):=List.getElem?_eq_getElem (by omega);obtain⟨q,hq⟩:∃q,q=is[i]'(by omega):=⟨_,rfl⟩;rw[<-hq]at hm;clear hq;obtain⟨bb,rfl,p2,p5,b6⟩:=c9 i q hm;obtain⟨v,kk,m1,HC,HV⟩:∃(v:aj) (kk:Int) (m1:List Bs),(∀y:World,Below wr.heap.size wr y->RV rb g n cap q ao an ac y λe w'=>e=.returned (iy v)/\RW w' rb (.slice T o Q) a O P m1 kk/\Kr qt rb y w')/\Hid (∀y,RW y rb (.slice T o Q) a O P m1 kk->Hq f B (.slice T o Q) a O P rb cs k S y (i+1) (d++ [v]) (I||(v.1==0))):=by
     rcases HN.out with⟨ni,D,Y,X⟩|⟨hk,D⟩
     ·rw[List.drop_eq_getElem_cons i4]at Y;obtain⟨v,kk,m1,k0,k8,k9⟩:=IW Y;refine⟨v,kk,m1,λy hy=>c6 i q i4 hm y ni v kk m1 k0 (J.kr.trans (Below.kr hy (le_of_lt D.lt))) (D.ag hy),λy hy=> ?_⟩;by_cases Z:kk=0
      ·subst Z;exact .inl ⟨m1,hy,k9 rfl,by rw[Ea,X]⟩
      ·have:=k8 Z
       cases this;exact .inr ⟨Z,hy⟩
     ·exact⟨dm,k,S,λy hy=>b9 i q hm y hk (J.kr.trans (Below.kr hy (le_of_lt D.lt))) (D.ag hy),λy hy=>.inr ⟨hk,hy⟩⟩
    have l7:rb<wr.heap.size:=by rcases HN.out with⟨ni,D,_⟩|⟨_,D⟩<;>exact D.lt
    have HS:Hid (∀y:World,lC qt rb x y g n cap tx true (some ⟨bb,0,none⟩) B.length c2 ty->y.cell? ⟨x.heap.size,0,none⟩=some (.slice (some ⟨g,0,none⟩) n cap)/\y.cell? ⟨x.heap.size+1+1,2,none⟩=some (.slice (some ⟨bb,0,none⟩) B.length c2)/\y.cell? ⟨bb,i,none⟩=some (.int .i64 (q:Int))):=λy hy=>⟨hy.cells.2.1,hy.cells.2.2.1.2.2.1,b6 y hy.kr⟩;have l5:=b6 wr J.kr;have p3:bb<wr.heap.size:=by omega
    have k3:=heap_alloc_new wr (aI 0 0 ⟨#[]⟩);have g6:=(J.ag (Below.kr (ae _ (aI 0 0 ⟨#[]⟩)) (le_of_lt l7))).drew;clear HN c6 b9 c9 b6;go_upto_region 20 with fail
    go_cut [14] (λo0 wy=>∃cb:Nat,o0=.pointer (some ⟨cb,0,none⟩)/\lC qt rb x wy g n cap tx true (some ⟨bb,0,none⟩) B.length c2 ty/\RW wy rb (.slice T o Q) a O P m1 kk/\(wy.heap[cb]? =some (rX v)/\wr.heap.size<=cb)/\wy.ownsRow (x.heap.size+3) 56 3 (.slice ko kn kc) i (jK d))
    case first=>
     go_region_held2 (λy=>y.cell? ⟨x.heap.size,0,none⟩=some (.slice (some ⟨g,0,none⟩) n cap)/\y.cell? ⟨x.heap.size+1+1,2,none⟩=some (.slice (some ⟨bb,0,none⟩) B.length c2)/\y.cell? ⟨bb,i,none⟩=some (.int .i64 (q:Int))) (first|exact HS.out _ J|exact HS.out _ J.drew|exact HS.out _ g6|exact h7|exact HS.out _ (V.kF (le_of_lt K) (by omega) _ _ _)|exact HS.out _ (V.ag (Below.kr (ae _ _) e0)))
      (first
       |(go_at_call 75;refine(HC _ ?_).mono ?_;exact(ae wr _).drew;rintro e w2 ⟨rfl,hR2,kr2⟩;have V:=g6.ag kr2;have e0:=le_of_lt hR2.lt;have e6:=kr2.cells k3 (by decide) (by decide);obtain⟨⟨z0,z1,z2⟩,r9,s3,s4⟩:=aQ e6;have lz:=ai e6;have h7:=HS.out _ V;have b5:=Bl (World.ownsRow.drew (a1.alloc (aI 0 0 ⟨#[]⟩))) kr2 (by decide) (by decide))
       |(go_at_call 75;refine(HC _ ?_).mono ?_;exact(refl _ wr).drew;rintro e w2 ⟨rfl,hR2,kr2⟩;have V:=J.drew.ag kr2;have e0:=le_of_lt hR2.lt;have h7:=HS.out _ V;have b5:=Bl (World.ownsRow.drew a1) kr2 (by decide) (by decide)))
     ·go_wp2_with fail
      go_meet;exact⟨w2.heap.size,rfl,V.ag (Below.kr (ae _ _) e0),hR2.ag (ae _ _),⟨heap_alloc_new _ _,by have:=kr2.size;simpa using this⟩,b5.alloc _⟩
     ·go_wp2_with fail
      go_meet;exact⟨_,rfl,V.kF (le_of_lt K) (by omega) _ _ _,hR2.kF e6 _ _ _,⟨mH e6 _ _ _,Nat.le_refl _⟩,aA b5 λq hq=>gP _ _ _ _ _ _ (by have:=(a1.lt q hq).2;omega)⟩
    case rest=>
     obtain⟨cb,rfl,U,E,⟨H,p6⟩,a2⟩:=hcut;obtain⟨⟨z0,z1,z2⟩,_⟩:=aQ H;have lz:=ai H;have i6:=E.lt;have i5:(Value.slice ko kn kc).ownBlock≠some cb:=λe=>by have:=(a1.lt cb e).2;omega
     obtain⟨vk,vn,vs⟩:=v;simp only at z0 z1 z2;have p7:=U.cells.1.2.2;clear HC HS J g6 k3 a0 n0 G n2 n3 r0 r1 r2 L M N l5 a1
     go_wp2_with(at_builtin;refine wpList_append_own _ rfl (.tmp 93) (.tmp 95) 57 rfl (x.heap.size+3) 56 n4 (.agg #[.int .i64 0,.int .i64 0,.string ⟨#[]⟩]) 3 32 Tryz.underlying57 k7 m7 m8 m9 rfl (by decide) _ _ _ rfl (a2.alloc _) ⟨wc.heap.size,0,none⟩ 1 1 [.int .i64 vk,.int .i64 vn,.string (aa vs)] rfl rfl ?c1 ?c2 ?c3 ?c4 ?c5 ?_)
     case c2=>exact⟨rfl,rfl,rfl⟩
     case c3=>unfold maxLen;omega
     case c4=>omega
     case c5=>omega
     intro v' w3 A w _;obtain⟨a6,n',C,rfl⟩:∃a6 n' C,v'=.slice a6 n' C:=by
      rcases A.2 with⟨e,_⟩|⟨q,C,h5,e,_⟩<;>exact⟨_,_,_,e⟩
     have R:w3.ownsRow (x.heap.size+3) 56 3 (.slice a6 n' C) (i+1) (jK (d++ [(vk,vn,vs)])):=by
      rw[oz];exact A
     have RK:RW w3 rb (.slice T o Q) a O P m1 kk:=E.grown (ae wc _) a2 w;have RB:lC qt rb x w3 g n cap tx true (some ⟨bb,0,none⟩) B.length c2 ty:=U.more (le_of_lt K) (((refl _ wc).alloc (by omega) _).grown w (by simp;omega) (λk hk=>(a2.lt k hk).1));have g7:w3.heap[cb]? =some (rX (vk,vn,vs)):=(w.block cb (by simp;omega) (λe=>i5 e.symm)).trans (((ae wc _).block cb lz).trans H);obtain⟨⟨y0,y1,y2⟩,_⟩:=aQ g7;have ly:=ai g7;have i2:(d++ [(vk,vn,vs)]).length=i+1:=by simp[hd]
     have c7:Hid (Hq f B (.slice T o Q) a O P rb cs k S w3 (i+1) (d++ [(vk,vn,vs)]) (I||(vk==0))):=HV.out w3 RK;clear A w a2 H g7 U E HV z0 z1 z2 i5
     cases I
     ·rw[Bool.false_or]at c7
      go_wp2_with fail
      go_roundg (B.length- (i+1))
      case rel=>exact⟨i+1,_,_,_,_,_,rfl,by omega,i2,rfl,rfl,by go_num,R,RB,c7⟩
      case measure=>omega
     ·rw[Bool.true_or]at c7
      go_wp2_with fail
      go_roundg (B.length- (i+1))
      case rel=>exact⟨i+1,_,_,_,_,_,rfl,by omega,i2,rfl,rfl,by go_num,R,RB,c7⟩
      case measure=>omega
   ·have HE:NA (.slice T o Q) a O P rb cs k S wr (.slice ko kn kc) I:=by
     rcases HN.out with⟨ni,D,Y,X⟩|⟨hk,D⟩
     ·rw[List.drop_of_length_le (by omega),gJ,su,if_neg (by simp),List.append_nil]at Y
      cases Y;exact⟨D,λ_=>⟨Ij (by rw[hd];exact a1) (by omega),X⟩⟩
     ·exact⟨D,λe=>absurd e hk⟩
    clear HN c6 b9 c9 a1
    go_wp2_with fail
    go_meet;exact⟨_,_,_,_,rfl,rfl,J,HE⟩
 case rest=>
  obtain⟨lo,ln,lc,I,rfl,rfl,J,hE⟩:=hcut;obtain⟨⟨l0,l1,l2⟩,a0,⟨n0,G,n2,n3⟩,⟨r0,r1,r2⟩,L,M,N⟩:=J.cells;obtain⟨j6,j7⟩:=hE.1.cells;have i6:=hE.1.lt;clear hV c8 hJ s f5 g5 q0 q1 q2 q3 c6 b9 c9;by_cases Z:k=0
  ·subst Z;obtain⟨h6,g1⟩:=hE.2 rfl;have a8:Hid (I=bF cs):=g1;clear g1;have b0:=hE.1;have hT:=hT rfl;have g4:=fI wc.drew (.slice none 0 0) (.slice none 0 0) ⟨#[]⟩ T o Q b8 ((i7.ag (HB.out wc J.kr)).ag (refl _ _).drew) tx;have p0:wc.cell? ⟨rb,0,none⟩=some (.slice T o Q):=by
    obtain⟨_,_,_,hb,_⟩:=b0;exact(af hb).trans rfl
   obtain⟨fi,g9⟩:∃z,z=zJ (bB (RF.list b8) tx):=⟨_,rfl⟩;rw[<-g9]at g4;have g3:Hid _:=g9;clear g9 hE h3 a0 n0 G n2 n3 r0 r1 r2 L M N l0 l1 l2;obtain⟨⟨l0,l1,l2⟩,a0,⟨n0,G,n2,n3⟩,⟨r0,r1,r2⟩,L,M,N⟩:=J.cells;go_upto_region 25 with fail
   generalize m3:wc=wo at*;clear m3;go_cut [15] (λo1 wx=>o1=.int .i64 fi/\Hid (Below wo.heap.size wo wx))
   case first=>
    clear hT;go_region_with(go_at_call 67;refine g4.mono ?_;rintro e w2 ⟨rfl,s⟩;replace s:=jT s);all_goals(go_wp2_with fail;go_meet)
    all_goals exact⟨rfl,s⟩
   case rest=>
    obtain⟨rfl,HW⟩:=hcut;have U:=J.ag (Below.kr HW.out (le_of_lt i6));have E:=b0.ag HW.out;have b3:=h6.ag HW.out;have e5:=E.lt;clear J b0 h6 g4 p0 j6 j7 a0 n0 G n2 n3 r0 r1 r2 L M N l0 l1 l2;obtain⟨⟨l0,l1,l2⟩,a0,⟨n0,G,n2,n3⟩,⟨r0,r1,r2⟩,L,M,N⟩:=U.cells;rcases hT with⟨j,rf,Y,a5,HV⟩|⟨Y,hT⟩
    ·have h0:fi=(j:Int):=by rw[g3.out,Y];rfl
     subst h0;have q4:=(List.getElem?_eq_some_iff.mp a5).1;obtain⟨o8,o5,e2,h8,h|⟨fb,e3,k4,i3⟩⟩:=i7.ag (HB.out wc U.kr)
     ·subst h;simp at a5
     cases e2;subst e3;have h9:=i3 j rf a5;have i1:=h9;obtain⟨g2,a9,o9,o7, -, -,h4, -, -,l4, -, -, -⟩:=i1;obtain⟨p,hp⟩:∃p,(post rf.t).length=p+1:=⟨(post rf.t).length- 1,by have:=mF rf.t;omega⟩;rw[hp]at h4 l4;have H:=ae wc (rA g2 (p+1) a9);have HX:=HV g2 (p+1) a9 _ lo ln lc (U.kr.trans (Below.kr H (le_of_lt e5))) ⟨fb,_,_,rfl,(H.cell (p:=⟨fb,j*5+2,none⟩) k4).trans h4⟩ (E.ag H) (b3.ag H);rw[Nat.add_sub_cancel]at HX;have p0:wc.cell? ⟨rb,0,none⟩=some (.slice (some ⟨fb,0,none⟩) b8.length Q):=by
      obtain⟨_,_,_,hb,_⟩:=E;exact(af hb).trans rfl
     have j8:=U.ag (Below.kr H (le_of_lt e5));clear HV h9 i3 Y a5 hp a8
     go_wp2_with(go_at_call 75;refine HX.mono ?_;rintro e w5 ⟨rfl,hR5,kr5⟩;have W:=j8.ag kr5;obtain⟨⟨m0,j2,m2⟩,j5,⟨n6,G,e8,e9⟩,⟨r0,r1,r2⟩,L,M,N⟩:=W.cells)
     refine bodyPost_ret (v:=.agg #[.int .i64 r.1.1,.int .i64 r.1.2.1,.string (aa r.1.2.2)]) (by simp[results,Tryz.results75,go_sem,r0,r1,r2]) rfl ?_;exact gU.end rfl K hR5 W.kr (by omega) W.b1 _ _ _
    ·have h0:fi= -1:=by rw[g3.out,Y];rfl
     subst h0;rcases hT with⟨rfl,he⟩|⟨rfl,rfl,c,rfl,g8,i8,r4,he⟩|⟨j0,j1,hT⟩
     ·have HE:Hid (r=(aV I,0,S)):=by rw[Hid,he,a8.out]
      have j4:=bS I;have e1:aa oH=⟨#[105,115,110,117,108,108]⟩:=rfl;rw[e1]at n0;clear he
      go_wp2_with(go_at_call 130;refine(j4 _).mono ?_;rintro e w3 ⟨rfl,rfl⟩)
      refine bodyPost_ret (v:=.agg #[.int .i64 3,.int .i64 (gz I),.string ⟨#[]⟩]) (by simp[results,Tryz.results75,go_sem,r0,r1,r2,l1]) rfl ?_;rw[HE.out];have h:=gU.end (r:=(aV I,0,S)) rfl K E U.kr (show x.heap.size<=x.heap.size+1 by omega) U.b1 (.int .i64 3) (.int .i64 (gz I)) (.string ⟨#[]⟩);exact⟨rfl,h.2.1.ag (ae _ _),h.2.2.trans (Below.kr (ae _ _) (le_of_lt h.2.1.lt))⟩
     ·obtain⟨n5,l8,m4,m5,m6⟩:=info_parts QW;have HE:Hid (r=(c,0,S++ [ku c])):=he;have e1:aa nz=⟨#[110,111,116,101]⟩:=rfl;rw[e1]at n0;obtain⟨b,g0,C,i9,p1,u0,u1,u2⟩:=yG b3.1 0 (by simp);obtain⟨h5,fz,F⟩:=b3.2 _ _ _ rfl b g0 (by cases i9;rfl)
      cases i9;simp only[List.getElem_cons_zero,Nat.zero_mul,Nat.add_zero]at u0 u1 u2;obtain⟨no,nn,nc,b4,a4⟩:=E;have p4:wc.cell? ⟨rb,4,none⟩=some (.slice no nn nc):=(af b4).trans rfl;simp only[aY,Bool.and_eq_true,decide_eq_true_eq]at i8;simp only[SX,Bool.and_eq_true,decide_eq_true_eq]at g8;have c0:=λy:World=>CQ c.1 c.2.1 c.2.2 y (by omega) (by omega) g8.2;obtain⟨ck,cn,cl⟩:=c;simp only at u0 u1 u2 c0;obtain⟨o2,a7⟩:∃z,z=ku (ck,cn,cl):=⟨_,rfl⟩;rw[<-a7]at HE;simp only[<-a7]at c0;clear he a7 g8 i8 a8 b3 g3
      go_wp2_with(first
       |(go_at_call 131;refine(c0 _).mono ?_;rintro e w2 ⟨rfl,s⟩;have n7:=(s.cell (p:=⟨rb,4,none⟩) e5).trans p4;have l9:=s.size;have e0:=lt_of_lt_of_le e5 l9;have b7:=aA a4 (x:=w2) (λg hg=>s.block g (a4.lt g hg).2))
       |(at_builtin;refine wpList_append_own _ rfl (.tmp 154) (.tmp 156) 52 rfl (rb+1) 9 n5 (.string ⟨#[]⟩) 1 16 Tryz.underlying52 l8 m4 m5 m6 rfl (by decide) _ _ _ rfl (b7.alloc _) ⟨w2.heap.size,0,none⟩ 1 1 [.string (aa o2)] rfl rfl ?d1 ?d2 ?d3 ?d4 ?d5 ?_))
      case d1=>
       intro j u Y
       match j,Y with
       |0,Y=>simp at Y;subst Y;simp[Addr.add]
      case d2=>intro u hu;simp at hu;subst hu;rfl
      case d3=>unfold maxLen;omega
      case d4=>omega
      case d5=>simp;omega
      intro v' w3 A w _;obtain⟨a6,n',o6,rfl⟩:∃a6 n' C,v'=.slice a6 n' C:=by
       rcases A.2 with⟨e,_⟩|⟨q,C,h5,e,_⟩<;>exact⟨_,_,_,e⟩
      obtain⟨e7,j3⟩:=Mt U K b4 a4 s w A;have k1:=e7 _ _ _ _ b4 (by decide);have k2:=e7 _ _ _ _ F (by decide);have k3:=e7 _ _ _ _ U.b1 (by decide);have q6:=ai k1;have q7:=ai k2;have q8:=ai k3;have v0:w3.cell? ⟨b,g0,none⟩=some (.int .i64 ck):=(World.cell?_of_block (k2.trans F.symm)).trans u0;have v1:w3.cell? ⟨b,g0+1,none⟩=some (.int .i64 cn):=(World.cell?_of_block (k2.trans F.symm)).trans u1;have v2:w3.cell? ⟨b,g0+2,none⟩=some (.string (aa cl)):=(World.cell?_of_block (k2.trans F.symm)).trans u2;obtain⟨⟨s0,s1,s2⟩,r6,r7,r8⟩:=aQ k3;have y4:w3.cell? ⟨rb,4,none⟩=some (.slice no nn nc):=(af k1).trans rfl;have yf:w3.frozen? ⟨rb,4,none⟩=false:=by simp[World.frozen?,k1]
      have r3:b≠rb:=λe=>by subst e;rw[b4]at F;cases F
      clear A w a4 b7 b4 e7 c0 u0 u1 u2 p4 n7 r0 r1 r2 L M N k1 k2 k3 F s
      go_wp2
      refine bodyPost_ret (v:=.agg #[.int .i64 ck,.int .i64 cn,.string (aa cl)]) (by simp[results,Tryz.results75,go_sem,s0,s1,s2]) rfl ?_;rw[HE.out];obtain⟨A1,A2⟩:=j3 (.int .i64 ck) (.int .i64 cn) (.string (aa cl));exact⟨rfl,A1,A2⟩
     ·have u1:((aa tx).toList== [105,115,110,117,108,108])=false:=by rw[au];exact beq_eq_false_iff_ne.mpr j0
      have u2:((aa tx).toList== [110,111,116,101])=false:=by rw[au];exact beq_eq_false_iff_ne.mpr j1
      clear j0 j1;rcases hT with⟨ha,he⟩|⟨ha,HH⟩
      ·have X:I=_:=a8.out.trans ha;subst X;have HE:Hid (r=(dm,0,S)):=he;clear he ha
       go_wp2_with fail
       refine bodyPost_ret (v:=.agg #[.int .i64 0,.int .i64 0,.string ⟨#[]⟩]) (by simp[results,Tryz.results75,go_sem,r0,r1,r2]) rfl ?_;rw[HE.out];exact gU.end rfl K E U.kr (by omega) U.b1 _ _ _
      ·have X:I=_:=a8.out.trans ha;subst X;have HX:=HH _ _ b3.1 E;clear HH ha
       go_wp2_with(go_at_call 132;refine HX.mono ?_;rintro e w5 ⟨rfl,hR5,kr5⟩;have W:=U.ag kr5;obtain⟨⟨m0,j2,m2⟩,j5,⟨n6,G,e8,e9⟩,⟨r0,r1,r2⟩,L,M,N⟩:=W.cells)
       refine bodyPost_ret (v:=.agg #[.int .i64 r.1.1,.int .i64 r.1.2.1,.string (aa r.1.2.2)]) (by simp[results,Tryz.results75,go_sem,r0,r1,r2,j2]) rfl ?_;have h:=gU.end (r:=r) rfl K hR5 W.kr (show x.heap.size<=x.heap.size+1 by omega) W.b1 (.int .i64 r.1.1) (.int .i64 r.1.2.1) (.string (aa r.1.2.2));exact⟨rfl,h.2.1.ag (ae _ _),h.2.2.trans (Below.kr (ae _ _) (le_of_lt h.2.1.lt))⟩
  ·have q5:(k==0)=false:=by simpa using Z
   have HE:Hid (r=(dm,k,S)):=h3 Z;clear hT h3;have b0:=hE.1;clear hE
   go_wp2_with fail
   refine bodyPost_ret (v:=.agg #[.int .i64 0,.int .i64 0,.string ⟨#[]⟩]) (by simp[results,Tryz.results75,go_sem,r0,r1,r2]) rfl ?_;rw[HE.out];exact gU.end rfl K b0 J.kr (by omega) J.b1 _ _ _
theorem vw:∀a b:Bs,(Op.bytesLess a b=decide (Lib.compareBytes a b<0))/\(Op.bytesLess b a=decide (0<Lib.compareBytes a b))
 | [],[]=>⟨rfl,rfl⟩
 | [],_::_=>⟨rfl,rfl⟩
 |_::_,[]=>⟨rfl,rfl⟩
 |a::xs,b::ys=>by
  obtain⟨i,j⟩:=vw xs ys;have f:Op.bytesLess (a::xs) (b::ys)=(decide (a<b)||(a==b&&Op.bytesLess xs ys)):=rfl;have g:Op.bytesLess (b::ys) (a::xs)=(decide (b<a)||(b==a&&Op.bytesLess ys xs)):=rfl;rw[f,g,i,j,Lib.compareBytes];by_cases h:a<b
  ·have l:¬b<a:=λc=>absurd (UInt8.lt_trans h c) (UInt8.lt_irrefl a);have d:(b==a)=false:=by rw[beq_eq_false_iff_ne];intro e;subst e;exact UInt8.lt_irrefl _ h
   rw[if_pos h];simp[h,l,d]
  ·rw[if_neg h];by_cases c:b<a
   ·have d:(a==b)=false:=by rw[beq_eq_false_iff_ne];intro e;subst e;exact UInt8.lt_irrefl _ c
    rw[if_pos c];simp[h,c,d]
   ·have k:a=b:=UInt8.le_antisymm (UInt8.not_lt.mp c) (UInt8.not_lt.mp h);subst k;rw[if_neg c];simp
theorem Kh(h:Bs)(n:Int)(a b:Bool)(c:a=decide (n<0))(d:b=decide (0<n)):uy h n=aV (Ez h a b):=by
 subst c d;unfold uy Ez;rcases Int.lt_trichotomy n 0 with hn|hn|hn
 ·have a1:(n==0)=false:=by rw[beq_eq_false_iff_ne];omega
  have a2:decide (n<0)=true:=by simpa using hn
  have a3:decide (0<n)=false:=by rw[decide_eq_false_iff_not];omega
  have a4:decide (n<=0)=true:=by rw[decide_eq_true_eq];omega
  rw[a1,a2,a3,a4];split<;>(try rfl);split<;>rfl
 ·subst hn;split<;>(try rfl);split<;>rfl
 ·have a1:(n==0)=false:=by rw[beq_eq_false_iff_ne];omega
  have a2:decide (n<0)=false:=by rw[decide_eq_false_iff_not];omega
  have a3:decide (0<n)=true:=by simpa using hn
  have a4:decide (n<=0)=false:=by rw[decide_eq_false_iff_not];omega
  rw[a1,a2,a3,a4];split<;>(try rfl);split<;>rfl
theorem Ke(n m:Int):decide (n<m)=decide (Lib.compareInt n m<0)/\decide (m<n)=decide (0<Lib.compareInt n m):=by
 unfold Lib.compareInt;by_cases h:n<m
 ·rw[if_pos h];simp[h];omega
 ·rw[if_neg h];by_cases a:n>m
  ·rw[if_pos a];simp[h];omega
  ·rw[if_neg a];simp[h];omega
theorem Ob{t:Int}{a b:aj}(j:rT t a)(hb:rT t b)(l:a.1≠0)(f:b.1≠0)(h:Bs):uy h (sK a b)=aV (Ez h (mg a b) (mg b a)):=by
 have num:∀(k n m:Int),k≠2->uy h (sK (k,n,[]) (k,m,[]))=aV (Ez h (mg (k,n,[]) (k,m,[])) (mg (k,m,[]) (k,n,[]))):=λk n m g=>by
  have e:sK (k,n,[]) (k,m,[])=Lib.compareInt n m:=by
   have c:Lib.compareInt k k=0:=by unfold Lib.compareInt;rw[if_neg (by omega),if_neg (by omega)]
   simp only[sK,aK,c,if_true,Lib.compareBytes];split<;>simp_all
  rw[e];refine Kh h _ _ _ ?_ ?_
  ·rw[mg,if_neg g];exact(Ke n m).1
  ·rw[mg,if_neg g];exact(Ke n m).2
 rcases j with rfl|⟨rfl,n,rfl,_⟩|⟨rfl,s,rfl,_⟩|⟨rfl,d,rfl⟩
 ·exact absurd rfl l
 ·rcases hb.one with rfl|⟨m,rfl,_⟩
  ·exact absurd rfl f
  ·exact num 1 n m (by decide)
 ·rcases hb.two with rfl|⟨u,rfl,_⟩
  ·exact absurd rfl f
  ·have e:sK (2,0,s) (2,0,u)=Lib.compareBytes s u:=by
    have c:Lib.compareInt 2 2=0:=by decide
    have i:Lib.compareInt 0 0=0:=by decide
    simp only[sK,aK,c,i,if_true];split<;>simp_all
   rw[e];exact Kh h _ _ _ (by rw[mg,if_pos rfl];exact(vw s u).1) (by rw[mg,if_pos rfl];exact(vw s u).2)
 ·rcases hb.three with rfl|⟨d',rfl⟩
  ·exact absurd rfl f
  ·exact num 3 (gz d) (gz d') (by decide)
theorem Pe{a:aj}(b:rT 3 a)(c:a.1≠0):xL a=TG a:=by
 rcases b.three with rfl|⟨d,rfl⟩
 ·exact absurd rfl c
 ·cases d<;>rfl
variable {qt : Bool}
theorem vg{rb:Nat}{c:Value}{a:Bs}{b f:Value}{g:List Bs}{y w':World}{e:Ending}{v:aj}(d:RW y rb c a b f g 0)(h:e=.returned (iy v)/\Below y.heap.size y w'):gU qt rb c a b f (v,0,g) y e w':=⟨h.1,d.ag h.2,Below.kr h.2 (le_of_lt d.lt)⟩
theorem Kv:∀ {cs:List aj},bF cs=false->∀c∈cs,c.1≠0
 | [],_,c,h=>by simp at h
 |d::cs,ha,c,h=>by
  simp only[bF,Bool.or_eq_false_iff,beq_eq_false_iff_ne]at ha;rcases List.mem_cons.mp h with rfl|h
  ·exact ha.1
  ·exact Kv ha.2 c h
theorem FZ{h:Bs}(P:qt=true->fK h=false){N:List Int}{cs:List aj}(I:h≠hAnd)(J:h≠hOr)(K:h≠xH)(L:h≠nz)(M:h≠oH)(f:bL h N≠0)(s:BB N cs)(O:bF cs=false)(R:cs.length<=1000){v:aj}{k:Int}(d:qB h cs=some (v,k)){y:World}{rb:Nat}{A:Value}{j:Bs}{z B:Value}{C:List Bs}{w:Value}(n:aO y w cs)(x:RW y rb A j z B C 0):
  Calls prog 132 #[.pointer (some ⟨rb,0,none⟩),.string (aa h),w] y λe w'=>gU qt rb A j z B (v,k,C) y e w':=by
 have i:=Kv O;unfold bL at f;by_cases r:h= [43]\/h= [45]\/h= [42]\/h= [47]
 ·rw[if_pos r]at f;unfold ik at f;split at f
  ·next e=>
   subst e;obtain⟨a,b,rfl,g,o⟩:=Ru s;have l:=i a (by simp);have t:=i b (by simp);have D:h≠Ck:=by rcases r with rfl|rfl|rfl|rfl<;>decide
   have E:IQ h=false:=by rcases r with rfl|rfl|rfl|rfl<;>decide
   have Q:IM h=true:=by rcases r with rfl|rfl|rfl|rfl<;>decide
   rw[qB,if_neg D]at d;simp only[Ed,E,Q,g.bd.2.2,o.bd.2.2,Bool.and_self,if_true,if_false,Bool.false_eq_true]at d;rw[if_neg λe=>e.elim l t]at d;have:=Ji y rb A j z B C x w a b n l t g.bd.2.2 o.bd.2.2 h r;rw[Option.some.inj d]at this
   cases qt
   ·exact this.mono λe w' h=>⟨h.1,h.2.1,Kr.of h.2.2⟩
   ·exact absurd (P rfl) (by rcases r with rfl|rfl|rfl|rfl<;>decide)
  ·exact absurd rfl f
 ·rw[if_neg r]at f;by_cases u:h= [61]\/h= [60]\/h= [60,61]
  ·rw[if_pos u]at f;have D:h≠Ck:=by rcases u with rfl|rfl|rfl<;>decide
   have E:IQ h=true:=by rcases u with rfl|rfl|rfl<;>decide
   unfold nQ at f;split at f
   ·next p q=>
    split at f
    ·next e=>
     subst e;obtain⟨a,b,rfl,g,o⟩:=Ru s;have l:=i a (by simp);have t:=i b (by simp);rw[qB,if_neg D]at d;simp only[Ed,E,if_true]at d;rw[if_neg λe=>e.elim l t]at d
     cases d;rw[Ob g o l t h];exact(Gb y rb w a b n l t h u).mono λe w' h=>vg x h
    ·exact absurd rfl f
   ·exact absurd rfl f
  ·rw[if_neg u]at f;rw[if_neg λe=>e.elim I J]at f;by_cases F:h= [110,111,116]
   ·rw[if_pos F]at f;unfold ik at f;split at f
    ·next e=>
     subst e F;obtain⟨a,rfl,g⟩:=CE s;have l:=i a (by simp);have e:qB [110,111,116] [a]=some (if a.1=0 then dm else xL a,0):=rfl;rw[e,if_neg l]at d
     cases d;rw[Pe g l];exact(Gd y rb w a n l).mono λe w' h=>vg x h
    ·exact absurd rfl f
   ·rw[if_neg F,if_neg (show¬h= [105,115,110,117,108,108]from M),if_neg (show¬h= [105,102]from K)]at f;by_cases G:h= [108,101,110]
    ·rw[if_pos G]at f;unfold ik at f;split at f
     ·next e=>
      subst e G;obtain⟨a,rfl,g⟩:=CE s;have l:=i a (by simp);have e:qB [108,101,110] [a]=some (if a.1=0 then dm else(1,(a.2.2.length:Int),[]),0):=rfl;rw[e,if_neg l]at d
      cases d;exact(Gc y rb w a n l).mono λe w' h=>vg x h
     ·exact absurd rfl f
    ·rw[if_neg G]at f;by_cases H:h= [99,97,116]
     ·rw[if_pos H]at f;unfold jV at f;split at f
      ·next e=>
       subst H;unfold qB at d;rw[if_pos (show [99,97,116]=Ck from rfl),if_pos (om s),if_neg (by rw[O];exact Bool.false_ne_true)]at d;obtain⟨m,S⟩:∃m,cs.length=m+1:=by
        cases cs with
        |nil=>cases N with
         |nil=>simp at e
         |cons _ _=>exact absurd s id
        |cons c cs=>exact⟨cs.length,rfl⟩
       have:=Ga y rb A j z B C x w cs n i m S R (om s);rw[Option.some.inj d]at this
       cases qt
       ·exact this.mono λe w' h=>⟨h.1,h.2.1,Kr.of h.2.2⟩
       ·exact absurd (P rfl) (by decide)
      ·exact absurd rfl f
     ·rw[if_neg H,if_neg (show¬h= [110,111,116,101]from L)]at f;exact absurd rfl f
end Go.Proofs.YtdifpeaklamhnaaGreatDoor
