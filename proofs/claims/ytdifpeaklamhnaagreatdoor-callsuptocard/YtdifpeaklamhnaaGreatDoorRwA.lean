import Derived.Test.YtdifpeaklamhnaaGreatDoorRvQZ
import Derived.Test.YtdifpeaklamhnaaGreatDoorRsFZ
import Derived.Test.YtdifpeaklamhnaaGreatDoorCaBZ
set_option linter.unusedVariables false
set_option linter.unusedSimpArgs false
set_option maxRecDepth 100000
set_option maxHeartbeats 0
namespace Go.Proofs.YtdifpeaklamhnaaGreatDoor
open Go.Proofs.Tryz
open Go.RowKit
open List (map)
def VB(w:World)(o:Except Int (List Fn × List (aT × Ex)))(e:Ending)(w':World):Prop:=Below w.heap.size w w'/\
 ((∃(n:Int) (p:Option Addr),o=.error n/\n≠0/\e=.returned (.tuple #[.pointer p,.int .i64 n]))\/
  (∃(l:List tY) (tl:List mG) (xb:Nat) (fo:Option Addr) (fnn fc:Nat) (tv pv:Value),o=.ok (bT l,iy tl)/\e=.returned (.tuple #[.pointer (some ⟨xb,0,none⟩),.int .i64 0])/\w'.heap[xb]? =some (.cells #[.slice fo fnn fc,tv,pv] 200 (0,0))/\
  w'.ownsRow (xb+1) 217 5 (.slice fo fnn fc) l.length (eB l)/\l.length<=8/\(∀e∈l,kz w' e)/\uU (l.map (·.1))))
theorem Jb(w:World)(g:List nk)(r:Option Addr)(q p:Nat)(C:fH w (.slice r q p) g)(b:∀f∈g,f.2.1.length<=maxLen)(i:List aT)(d:Option Addr)(u t:Nat)(k:jm w (.slice d u t) i)(a:Bs):
  Calls prog 73 #[.agg #[.slice r q p,.slice d u t],.string (aa a)] w λe w'=>VB w (pU a (dS g i)) e w':=by
 have c:=ae w (.cells #[.slice r q p,.slice d u t] 67);by_cases B:30<a.length
 ·have A:30<(aa a).size:=by rw[aF];exact B
  have H:decide ((30:Int)<((aa a).size:Int))=true:=by simp;omega
  have m:Hid (pU a (dS g i)=.error 9):=by rw[Hid,pU,if_pos B]
  clear C k b;go_enter Tryz.func73,Tryz.ntmps73
  go_wp2_with fail
  exact bodyPost_ret (v:=.tuple #[.pointer none,.int .i64 9]) (by simp[results,Tryz.results73,go_sem]) rfl ⟨c,.inl ⟨9,none,m.out,by decide,rfl⟩⟩
 ·have A:(aa a).size<=30:=by rw[aF];omega
  have H:decide ((30:Int)<((aa a).size:Int))=false:=by simp;omega
  have m:Hid (pU a (dS g i)=dS g i):=by rw[Hid,pU,if_neg B]
  have o:=Dk (w.alloc (.cells #[.slice r q p,.slice d u t] 67)) g r q p (C.ah c) b i d u t (k.ah c);clear C k b;go_enter Tryz.func73,Tryz.ntmps73
  go_wp2_with(go_at_call 27;refine o.mono ?_)
  clear o;rintro e w2 ⟨h,⟨n,xb,ho,hn,rfl⟩|⟨l,tls,xb,ho,rfl,hBT,hok⟩⟩
  ·have x:Below w.heap.size w w2:=c.trans (h.mono (by simp[World.size_alloc]));have y:Hid (pU a (dS g i)=.error n):=m.out.trans ho;clear ho h m
   go_wp2_with fail
   exact bodyPost_ret (v:=.tuple #[.pointer (some ⟨xb,0,none⟩),.int .i64 n]) (by simp[results,Tryz.results73,go_sem]) rfl ⟨x,.inl ⟨n,_,y.out,hn,rfl⟩⟩
  ·have x:Below w.heap.size w w2:=c.trans (h.mono (by simp[World.size_alloc]));have y:Hid (pU a (dS g i)=.ok (bT l,iy tls)):=m.out.trans ho;obtain⟨F,E,D,K,J,I,N,M,L,_,z,⟨j,G,s⟩,_⟩:=hBT;clear ho h m
   go_wp2_with fail
   exact bodyPost_ret (v:=.tuple #[.pointer (some ⟨xb,0,none⟩),.int .i64 0]) (by simp[results,Tryz.results73,go_sem]) rfl ⟨x,.inr ⟨l,tls,xb,F,E,D,_,_,y.out,rfl,z,j,G,s,hok⟩⟩
theorem Jo(cs:List au)(S:ByteArray)(k:Nat)(a:k<cs.length)(b:k<S.size):di (cs.drop k) (aK (S.toList.drop k))=(bH cs[k] (gL (S[k].toNat:Int))&&di (cs.drop (k+1)) (aK (S.toList.drop (k+1)))):=by
 rw[List.drop_eq_getElem_cons a,drop_cons S k b,aK,List.map_cons,di];rfl
theorem Uc{S:ByteArray}(h:S.toList.all dz=true)(k:Nat)(a:k<S.size):dz S[k]=true:=
 List.all_eq_true.mp h _ (by rw[<-dM S k a];exact List.getElem_mem _)
theorem Gb(w:World)(P:List nk)(fo:Option Addr)(fl fc:Nat)(hv:fH w (.slice fo fl fc) P)(I:∀f∈P,f.2.1.length<=maxLen)(ts:List aT)(X:Option Addr)(tl tc:Nat)(e9:jm w (.slice X tl tc) ts)(a name:Bs)(args:List au)(a8:Option Addr)(c3 a7:Nat)(ha:aR w (.slice a8 c3 a7) args):
  Calls prog 32 #[.agg #[.slice fo fl fc,.slice X tl tc],.string (aa a),.string (aa name),.slice a8 c3 a7] w λe w'=>gM w (lW P ts a name args) e w':=by
 have T:=az w (.cells #[.slice fo fl fc,.slice X tl tc] 67) (aC 0 0 ⟨#[]⟩);have A:=Jb _ P fo fl fc (hv.ah T) I ts X tl tc (e9.ah T) a;clear hv e9 I;go_enter Tryz.func32,Tryz.ntmps32
 go_wp2_with(go_at_call 73;refine A.mono ?_)
 clear A;rintro e w2 ⟨R,⟨n,p,ho,hn,rfl⟩|⟨l,tls,xb,go,gn,gc,tv,pv,ho,rfl,s,hownF,h8,hbod,B⟩⟩
 ·have A:Hid (lW P ts a name args=oF n):=Ba ho;obtain⟨kR,B2,h4⟩:=iI R;have j2:(n==0)=false:=by simpa using hn
  have l3:=af kR;obtain⟨⟨z0,Y,z2⟩,Z,a0,a1⟩:=aJ kR;clear ho R T ha
  go_wp2_with fail
  refine bodyPost_ret (v:=.tuple #[.agg #[.int .i64 0,.int .i64 0,.string ⟨#[]⟩],.slice none 0 0,.int .i64 n]) (by simp[results,Tryz.results32,go_sem,z0,Y,z2]) rfl (gM.bad A.out rfl ?_)
  first|exact B2|exact aI B2 (by omega) _ _ _
 have A:Hid (lW P ts a name args=_):=Et ho;obtain⟨h0,e8⟩:=CE ho;obtain⟨k2,B2,h4⟩:=iI R;have b7:=af s;have x0:w2.cell? ⟨xb,0,none⟩=some (.slice go gn gc):=(ag s).trans rfl;have q:=tJ hownF h8 hbod;have m:=eT w2 (.slice none 0 0) (.slice none 0 0) ⟨#[]⟩ go gn gc _ q name;have b6:RF.list (l.map (·.1))=bT l:=rfl;rw[b6]at m;simp only at A;clear R T ho hownF hbod s;have c4:=ha.ah B2
 cases K:aV (bT l) name with
 |none=>
  rw[K]at m A;have b5:Aa none= -1:=rfl;rw[b5]at m;clear K h0 q
  go_wp2_with(go_at_call 67;refine m.mono ?_;rintro e w3 ⟨rfl,hb3⟩;have k3:=iE hb3 k2 (by omega);have l3:=af k3;obtain⟨⟨z0,Y,z2⟩,Z,a0,a1⟩:=aJ k3)
  refine bodyPost_ret (v:=.tuple #[.agg #[.int .i64 0,.int .i64 0,.string ⟨#[]⟩],.slice none 0 0,.int .i64 2]) (by simp[results,Tryz.results32,go_sem,z0,Y,z2]) rfl (gM.bad A.out rfl ?_);have B3:=B2.trans (hb3.mono B2.size)
  first|exact B3|exact aI B3 (by omega) _ _ _
 |some i=>
  have b5:Aa (some i)=(i:Int):=rfl;have h1:i<(bT l).length:=yO K;obtain⟨fn,U⟩:∃fn,(bT l)[i]? =some fn:=⟨_,List.getElem?_eq_getElem h1⟩;rw[K]at m A;rw[b5]at m;simp only[U]at A;obtain⟨c,C,e5⟩:=Jc U;subst e5;have c6:=q;obtain⟨i7,i5,e2,i8,h|⟨G,e3,V,c8⟩⟩:=c6
  ·rw[h]at C;simp at C
  cases e2;subst e3;have g5:=c8 i c C;obtain⟨g2,j,a9,O, -,u1,u2, -, -,W,N,a5, -⟩:=g5;have g9:i<(map (λx:tY=>x.1) l).length:=(List.getElem?_eq_some_iff.mp C).1;obtain⟨L,hL⟩:∃L,L=(map (λx:tY=>x.1) l).length:=⟨_,rfl⟩;rw[<-hL]at g9;obtain⟨p,hp⟩:∃p,(post c.t).length=p+1:=⟨(post c.t).length- 1,by have:=mX c.t;omega⟩;rw[hp]at u2;obtain⟨J,a3⟩:=B.EL c (List.mem_of_getElem? C);obtain⟨u,d⟩:=B.Vx i c C;have H:iL w2 g2 j (post c.t) O a9:=⟨N,a5,W,λt ht=>Nat.le_trans (lI ht) W⟩;have E:=λ(ht:di args c.fn.args=true)=>yF (i:=i) (fn:=c.fn) h0 U ht e8;obtain⟨S,hS⟩:∃S,S=aa c.args:=⟨_,rfl⟩;have b1:S.toList=c.args:=by rw[hS,aj]
  have c7:S.size=c.args.length:=by rw[hS,aF]
  rw[<-hS]at u1;have D:c.fn.args.length=S.size:=by rw[J,c7];simp[aK]
  obtain⟨i3,i2,ea,g4,g6⟩:=ha;unfold maxLen at g4
  cases ea;have HP:Hid (iL w2 g2 j (post c.t) O a9/\(post c.t).length=p+1/\(∀y∈post c.t,ny y)/\lN w2 (.slice (some ⟨G,0,none⟩) (map (λx:tY=>x.1) l).length gc) (map (λx:tY=>x.1) l)/\uU (map (λx:tY=>x.1) l)/\aY bi ([],c.fn.args) (RF.list ((map (λx:tY=>x.1) l).take i)) c.t=.ok c.fn.body):=⟨H,hp,d,q,B,u⟩;rw[<-hL]at x0 m;have HL:Hid _:=hL;clear hL c8 q B u d H N a5 K h0 U C hS g6 hp
  go_wp2_with(go_at_call 67;refine m.mono ?_)
  clear m;rintro e w3 ⟨rfl,hb3⟩;have B3:=B2.trans (hb3.mono B2.size);have k3:=iE hb3 k2 (by omega);have x3:=(hb3.cell (p:=⟨xb,0,none⟩) b7).trans x0;have v1:=(hb3.cell (p:=⟨G,i*5+1,none⟩) V).trans u1;have v2:=(hb3.cell (p:=⟨G,i*5+2,none⟩) V).trans u2;have g0:xb<w3.heap.size:=Nat.lt_of_lt_of_le b7 hb3.size;have b4:G<w3.heap.size:=Nat.lt_of_lt_of_le V hb3.size;have c5:=c4.ah hb3;have b8:Hid (Below w2.heap.size w2 w3):=hb3;have h5:=hb3.size;clear hb3 x0 u1 u2 k2 c4 b7 V;have e7:S.toList.all dz=true:=by rw[b1];exact a3
  have a6:Hid (c.fn.args=aK S.toList):=by rw[Hid,b1];exact J
  clear J a3 b1 c7;by_cases M:args.length=S.size
  ·have h2:((args.length:Int) != (S.size:Int))=false:=by simp;omega
   have a2:Hid _:=M;clear D M
   go_wp2_with fail
   go_loopg [14] args.length (λgk iv wr=>∃k:Nat,gk=args.length- k/\k<=args.length/\iv=.int .i64 k/\Below w3.heap.size w3 wr/\Hid (di args c.fn.args=di (args.drop k) (aK (S.toList.drop k))))
   case atStart=>exact⟨0,rfl,Nat.zero_le _,rfl,Below.refl _ _,by rw[Hid,a6.out];rfl⟩
   case round=>
    obtain⟨k,g8,hk,rfl,Q,HT⟩:=hrel;subst g8;have h9:=Q.size;have y3:=(Q.cell (p:=⟨xb,0,none⟩) g0).trans x3;have j7:=(Q.cell (p:=⟨G,i*5+1,none⟩) b4).trans v1;have j8:=(Q.cell (p:=⟨G,i*5+2,none⟩) b4).trans v2;have j5:xb<wr.heap.size:=by omega
    have j0:G<wr.heap.size:=by omega
    have kr:=iE Q k3 (by omega);have b0:=c5.ah Q;have Br:=B3.trans (Q.mono B3.size);have b9:Hid (Below w2.heap.size w2 wr):=b8.out.trans (Q.mono h5);clear x3 v1 v2 k3 c5 g0 b4 b8;generalize i0:wr=wo at*;clear i0;by_cases e4:k<args.length
    ·obtain⟨b,j6,i4,h7,i9,c0,c1,c2⟩:=vz b0 k e4
     cases h7;have c9:k<S.size:=by have:=a2.out;omega
     have e0:=Uc e7 k c9;have F:Hid (di args c.fn.args=(bH args[k] (gL (S[k].toNat:Int))&&di (args.drop (k+1)) (aK (S.toList.drop (k+1))))):=by rw[Hid,HT.out,Jo args S k e4 c9]
     have HI:=λx:World=>sD args[k].1 args[k].2.1 (aa args[k].2.2) S[k] e0 x;obtain⟨ft,b3⟩:∃z,z=bH args[k] (gL (S[k].toNat:Int)):=⟨_,rfl⟩;have a4:bH (args[k].1,args[k].2.1,(aa args[k].2.2).toList) (gL (S[k].toNat:Int))=ft:=by rw[aj];exact b3.symm
     simp only[a4]at HI;rw[<-b3]at F;clear b3 a4 HT E;go_upto_region 12 with fail
     go_cut [15] (λi1 wx=>i1=.bool ft/\Hid (Below wo.heap.size wo wx))
     case first=>
      go_region_with(go_at_call 74;refine(HI _).mono ?_;rintro e w5 ⟨rfl,b2⟩;replace b2:=iA b2);all_goals(go_wp2_with fail;go_meet)
      all_goals exact⟨rfl,b2⟩
     case rest=>
      obtain⟨rfl,HW⟩:=hcut;have kc:=iE HW.out kr (af kr);have lc:=af kc;obtain⟨⟨z0,Y,z2⟩,Z,a0,a1⟩:=aJ kc
      cases ft with
      |false=>
       have HE:Hid (lW P ts a name args=oF 9):=by rw[Hid,A.out,F.out];rfl
       clear A F HI c0 c1 c2
       go_wp2_with fail
       refine bodyPost_ret (v:=.tuple #[.agg #[.int .i64 0,.int .i64 0,.string ⟨#[]⟩],.slice none 0 0,.int .i64 9]) (by simp[results,Tryz.results32,go_sem,z0,Y,z2]) rfl (gM.bad HE.out rfl ?_);have B5:=Br.trans (HW.out.mono Br.size)
       first|exact B5|exact aI B5 (by omega) _ _ _
      |true=>
       have HN:Hid (di args c.fn.args=di (args.drop (k+1)) (aK (S.toList.drop (k+1)))):=by rw[Hid,F.out];rfl
       clear F HI c0 c1 c2
       go_wp2_with fail
       go_roundg (args.length- (k+1))
       case measure=>omega
       case rel=>exact⟨k+1,rfl,by omega,by go_num,Q.trans (HW.out.mono h9),HN⟩
    ·have ht:di args c.fn.args=true:=by
      rw[HT.out,List.drop_of_length_le (by omega),List.drop_of_length_le (by have:=a2.out;rw[ai];omega)];rfl
     obtain⟨r,hr,j1,j3, -, -⟩:=E ht;have HE:Hid (lW P ts a name args=(r.1,r.2.2,r.2.1)):=by rw[Hid,A.out,ht,if_pos rfl,hr];rfl
     obtain⟨H,hp,d,q,B,u⟩:=HP.out;rw[<-HL.out]at q;have s:=az wo (.cells #[.slice (some ⟨G,0,none⟩) L gc,.string (aa a),.slice none 0 0,.slice none 0 0,.slice none 0 0,.int .i64 0] 232) (xI g2 (p+1) j);have kw:=(pz wo (.cells #[.slice (some ⟨G,0,none⟩) L gc,.string (aa a),.slice none 0 0,.slice none 0 0,.slice none 0 0,.int .i64 0] 232) (xI g2 (p+1) j)).1;have HV:=VK B e8 (fv:=.slice (some ⟨G,0,none⟩) L gc) (cv:=.slice none 0 0) (lv:=.slice none 0 0) (rb:=wo.heap.size) 300 i c.fn.args c.t c.fn.body wo g2 j (post c.t) O a9 p (H.ah b9.out) (by have:=dE c.t;rw[hp]at this;exact this) d (Nat.le_refl _) (q.ah b9.out) u a8 args.length a7 args (zR ht) _ [] r hr ⟨none,0,0,kw.1,World.ownsRow_nil _ _ _ _⟩ s ⟨b0.ah s,λhz ao n cap e b o eb=>by
      cases e;obtain⟨_,_,e',_,h'⟩:=b0
      cases e';obtain⟨b',_,e2,g7,_⟩:=h'.resolve_left hz;rw[eb]at e2;cases e2;exact .inl g7⟩
     rw[hp]at HV;have e1:=kw.2;obtain⟨q0,_⟩:=mO e1;have e6:((wo.alloc (.cells #[.slice (some ⟨G,0,none⟩) L gc,.string (aa a),.slice none 0 0,.slice none 0 0,.slice none 0 0,.int .i64 0] 232)).alloc (xI g2 (p+1) j)).heap.size=wo.heap.size+2:=by simp[World.size_alloc]
     have g3:Hid (p+1<=1000):=by rw[Hid,<-hp];exact W
     have i6:=g3.out;clear A HT E hr ht H hp d q B u HP HL W e7 a6;go_upto_region 18 with(go_at_call 75;refine HV.mono ?_;rintro e w5 ⟨rfl,⟨no,nn,nc,kn,hown⟩,kr5⟩)
     have g1:=kr5.2 _ _ _ _ (iE s kr (af kr)) (by decide) (by decide);have h6:=kr5.1.size;rw[e6]at h6;obtain⟨⟨z0,Y,z2⟩,Z,a0,a1⟩:=aJ g1;have n4:w5.cell? ⟨wo.heap.size,4,none⟩=some (.slice no nn nc):=(ag kn).trans rfl;have n5:w5.cell? ⟨wo.heap.size,5,none⟩=some (.int .i64 r.2.1):=(ag kn).trans rfl;have lk:=af kn;have lr:=af g1;have j4:=Br.size;have h3:∀g,(Value.slice no nn nc).ownBlock=some g->g≠w.heap.size+1:=λg hg=>by have:=(World.ownsRow.lt hown g hg).1;omega
     go_region;all_goals(go_wp2_with fail)
     all_goals
      refine bodyPost_ret (v:=.tuple #[.agg #[.int .i64 r.1.1,.int .i64 r.1.2.1,.string (aa r.1.2.2)],.slice no nn nc,.int .i64 r.2.1]) (by simp[results,Tryz.results32,go_sem,z0,Y,z2,lr]) rfl ?_;rw[HE.out];refine⟨no,nn,nc,rfl, ?_, ?_⟩
      ·have h8:=oV (World.ownsRow.alloc (aA hown (x:=((w5.setCell ⟨w.heap.size+1,0,none⟩ (.int .i64 r.1.1)).setCell ⟨w.heap.size+1,1,none⟩ (.int .i64 r.1.2.1)).setCell ⟨w.heap.size+1,2,none⟩ (.string (aa r.1.2.2))) λg hg=>bF _ _ _ _ _ _ (h3 g hg)) (aC r.1.1 r.1.2.1 (aa r.1.2.2))) (show w.heap.size<=wo.heap.size+1 by omega)
       first|exact h8|exact World.ownsRow.drew h8
      ·have B5:Below w.heap.size w w5:=Br.trans ((s.trans (kr5.1.mono (Nat.le_refl _))).mono Br.size);have B8:=(aI B5 (b:=w.heap.size+1) (by omega) (.int .i64 r.1.1) (.int .i64 r.1.2.1) (.string (aa r.1.2.2))).alloc (by simp;omega) (aC r.1.1 r.1.2.1 (aa r.1.2.2))
       first|exact B8|exact B8.drew
  ·have HE:Hid (lW P ts a name args=oF 9):=by
    rw[Hid,A.out,tO args c.fn.args (by rw[D];exact M)];rfl
   have h2:((args.length:Int) != (S.size:Int))=true:=by simp;omega
   have l3:=af k3;obtain⟨⟨z0,Y,z2⟩,Z,a0,a1⟩:=aJ k3;clear A E HP a6
   go_wp2_with fail
   refine bodyPost_ret (v:=.tuple #[.agg #[.int .i64 0,.int .i64 0,.string ⟨#[]⟩],.slice none 0 0,.int .i64 9]) (by simp[results,Tryz.results32,go_sem,z0,Y,z2]) rfl (gM.bad HE.out rfl ?_)
   first|exact B3|exact aI B3 (by omega) _ _ _
end Go.Proofs.YtdifpeaklamhnaaGreatDoor
