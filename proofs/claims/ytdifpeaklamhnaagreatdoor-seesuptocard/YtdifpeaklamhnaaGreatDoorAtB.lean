import Derived.Test.YtdifpeaklamhnaaGreatDoorAtDZ
set_option linter.unusedVariables false
set_option linter.unusedSimpArgs false
set_option maxRecDepth 100000
set_option maxHeartbeats 0
namespace Go.Proofs.YtdifpeaklamhnaaGreatDoor
open Go.Proofs.Tryz
open Go.RowKit
open Value (slice string int)
theorem LC{n:Int}{a:Bool}(h:aK [n,fU a 5]=0):n=0/\a=false:=by
 simp only[aK]at h;by_cases b:n=0
 ·subst b;cases a
  ·exact⟨rfl,rfl⟩
  ·revert h;simp[fU]
 ·exfalso;revert h;simp[b]
theorem Ox{n m:Int}(h:n≠0):aK [n,m]=n:=by simp[aK,h]
theorem IE{a:Int}{b:Bool}(h:a=aK [0,fU b 5])(c:a≠0):b=true/\a=5:=by
 cases b
 ·exfalso;apply c;rw[h];rfl
 ·exact⟨rfl,by rw[h];rfl⟩
theorem Kn{w:World}{i:List Nat}{S:Nat->Prop}{sort ty size:Int}{quiet:Bool}{vk vn:Int}{vs:Bs}{place:Int}{head:Bs}{fp xo:Option Addr}{xn xc:Nat}{y:Ex}(h:dJ w i S [.int .i64 sort,.int .i64 ty,.int .i64 size,.bool quiet,.int .i64 vk,.int .i64 vn,.string (aa vs),.int .i64 place,.string (aa head),.pointer fp,.slice xo xn xc] y):y.ty=ty/\y.quiet=quiet:=by
 obtain⟨f,k,e,b,l,m,n,a,d,s,g,j,r,q,o,p,rfl,c,_⟩:=h.inv;simp only[List.cons.injEq,Value.int.injEq,Value.bool.injEq,true_and]at c;exact⟨c.2.1.symm,c.2.2.2.1.symm⟩
theorem Tg{x:World}{b:Nat}{a0 a1 a2 a3 a4 a5:Value}{T:TypeId}(h:x.heap[b]? =some (.cells #[a0,a1,a2,a3,a4,a5] T (0,0))):
  (x.cell? ⟨b,0,none⟩=some a0/\x.cell? ⟨b,1,none⟩=some a1/\x.cell? ⟨b,2,none⟩=some a2/\x.cell? ⟨b,3,none⟩=some a3/\x.cell? ⟨b,4,none⟩=some a4/\x.cell? ⟨b,5,none⟩=some a5)/\x.frozen? ⟨b,0,none⟩=false:=by
 simp[World.cell?,World.frozen?,h]
theorem BH(w0 w:World)(k:Nat)(FB:List Nat)(fns:List Fn)(s:List (aJ × Ex))(hB:pq w0 w k FB fns s)(h3:s.length<=3)(hf:∀fn∈fns,0<=fn.body.size/\fn.body.size<=300)(t:aJ)(co:Option Addr)(cn cc:Nat)(ro:Option Addr)(rn rc:Nat)(uo:Option Addr)(un uc:Nat)
  (k2:dM w0 (.slice co cn cc) t.ax) (k3:RowsIn w0 (.slice ro rn rc) t.rows) (n9:eD w0 (.slice uo un uc) t.eZ) (p1:t.name.length<=maxLen) (l8:t.aD.length<=maxLen):
  Calls prog 111 #[.pointer (some ⟨k,0,none⟩),.agg #[.string (aa t.name),.slice co cn cc,.slice ro rn rc,.int .i64 t.count,.string (aa t.aD),.slice uo un uc]] w λe w'=>Qx w0 w k FB fns s t (cZ fns s t) e w':=by
 obtain⟨fo,v,fc,l,tn,tc,H,n5,c8,X,hF,F,l9,h4,l7,i5⟩:=hB;have hT:=Sd c8 F l9 h4 i5;have hC:=k2.ag c8;have hR:=k3.ag c8;obtain⟨wd,i7⟩:∃b,b=aU t.name:=⟨_,rfl⟩;obtain⟨it,b2⟩:∃b,b=bJ t:=⟨_,rfl⟩;have k7:=ai X;have Z:0=aK [fU (!wd||(oW s t.name==0)) 2,fU (!it) 6]->t.ax.length<=1000/\∀c∈t.ax,c.1.length<=1000:=by
  intro h;have h2:it=true:=by
   cases it
   ·exfalso;revert h;cases wd<;>cases(oW s t.name==0)<;>decide
   ·rfl
  rw[h2]at b2;exact sM (sS b2.symm)
 have HW:∀x:World,Calls prog 171 #[.string (aa t.name)] x λe w'=>e=.returned (.bool wd)/\w'=x:=by
  intro x;have:=jY (aa t.name) x (by rw[aF];exact p1);rw[au]at this;rw[i7];exact this
 obtain⟨n6,c9⟩:∃n,n=oW s t.name:=⟨_,rfl⟩;rw[<-c9]at Z;obtain⟨W,hW⟩:∃W,W=w.alloc (MW t co cn cc ro rn rc uo un uc):=⟨_,rfl⟩;have L:W.heap[k]? =some (.cells #[.slice fo v fc,.slice l tn tc] 194 (0,0)):=by rw[hW,Below.heap_alloc _ _ _ k7];exact X
 have d:Below w.heap.size w W:=by rw[hW];exact ae w _
 have j:W.heap[w.heap.size]? =some (MW t co cn cc ro rn rc uo un uc):=by rw[hW];exact heap_alloc_new w _
 obtain⟨b0,_,b1,_⟩:=mi L;have d0:W.cell? ⟨w.heap.size,0,none⟩=some (.string (aa t.name)):=(af j).trans rfl;have Y:k<W.heap.size:=by have:=d.size;omega
 have p2:W.heap.size=w.heap.size+1:=by rw[hW];simp[World.size_alloc]
 have e4:w.alloc (MW t co cn cc ro rn rc uo un uc)=W:=hW.symm;have HT:∀x:World,Below W.heap.size W x->Calls prog 76 #[.agg #[.slice fo v fc,.slice l tn tc],.string (aa t.name)] x λe w'=>Below W.heap.size W w'/\Below x.heap.size x w'/\∃a0 a1 a2 a3 a4 a5 N O Q a9 i j6 j7 j8 j9 k0 k1,rU a0 a1 a2 a3 a4 a5 N O Q a9 i j6 j7 j8 j9 k0 k1/\e=.returned (.tuple #[.agg #[a0,a1,a2,a3,a4,a5,N,O,Q,a9,i,j6,j7,j8,j9,k0,k1],.int .i64 n6]):=by
  intro x f;refine(BM x FB s fo v fc l tn tc (hT.ag (d.trans (f.mono d.size))) t.name).mono λe w' h=>⟨f.trans (h.1.mono f.size),h.1,by rw[c9];exact h.2⟩
 have e2:w.heap.size<W.heap.size:=by omega
 have h6:Hid _:=c9;have h8:Hid _:=i7;have g6:Hid _:=b2;have n3:Hid _:=i5;have h7:Hid _:=F;have m8:Hid _:=hF;clear hW hT c9 i7 i5 F;go_enter Tryz.func111,Tryz.ntmps111;go_upto_region 1 with fail
 try rw[e4]
 clear e4;go_cut [6] (λs6 R=>s6=.int .i64 n6/\Below W.heap.size W R)
 case first=>
  refine DY k w W t co cn cc ro rn rc uo un uc fo v fc l tn tc n6 Y e2 p2 b0 b1 d0 HT _ _ _ _ _ _ _ _ _ _ _ _ _ _ _ _ _ _ _ _ _ _ _ _ _ _ _ _ _ _ _ _ _ _ _ _ _ _ _ _ _ _ _ _ _ _ _ _ _ _ _ _ _ _ _ _ _ _ _ _ _ _ _ _ _ _ _ _ _ _ _ _ _ _ _ _ ?_;intro v5 v9 w9 x0 z0 z1 z2 z3 z4 z5 R V;dsimp only
  go_wp2_with fail
  go_meet;exact⟨rfl,V⟩
 case rest=>
  obtain⟨rfl,K⟩:=hcut;have kb:=(K.block w.heap.size e2).trans j;have c0:wc.cell? ⟨w.heap.size,0,none⟩=some (.string (aa t.name)):=(af kb).trans rfl;have c1:wc.cell? ⟨w.heap.size,1,none⟩=some (.slice co cn cc):=(af kb).trans rfl;have c2:wc.cell? ⟨w.heap.size,2,none⟩=some (.slice ro rn rc):=(af kb).trans rfl;have c3:wc.cell? ⟨w.heap.size,3,none⟩=some (.int .i64 t.count):=(af kb).trans rfl;have c4:wc.cell? ⟨w.heap.size,4,none⟩=some (.string (aa t.aD)):=(af kb).trans rfl;have c5:wc.cell? ⟨w.heap.size,5,none⟩=some (.slice uo un uc):=(af kb).trans rfl;have E:w.heap.size<wc.heap.size:=by have:=K.size;omega
  have g8:∀x:World,Below wc.heap.size wc x->Calls prog 188 #[.agg #[.string (aa t.name),.slice co cn cc,.slice ro rn rc,.int .i64 t.count,.string (aa t.aD),.slice uo un uc]] x λe w'=>Below wc.heap.size wc w'/\e=.returned (.bool it):=by
   intro x f;have B:Below w.heap.size w x:=d.trans ((K.trans (f.mono K.size)).mono d.size);exact(EY x t co cn cc ro rn rc uo un uc (hC.ag B) (hR.ag B)).mono λe w' h=>⟨f.trans (h.2.mono f.size),by rw[b2];exact h.1⟩
  clear b2;have g9:∀x:World,Below wc.heap.size wc x->x.cell? ⟨w.heap.size,0,none⟩=some (.string (aa t.name))/\x.cell? ⟨w.heap.size,1,none⟩=some (.slice co cn cc)/\x.cell? ⟨w.heap.size,2,none⟩=some (.slice ro rn rc)/\x.cell? ⟨w.heap.size,3,none⟩=some (.int .i64 t.count)/\x.cell? ⟨w.heap.size,4,none⟩=some (.string (aa t.aD))/\x.cell? ⟨w.heap.size,5,none⟩=some (.slice uo un uc):=λx f=>
   ⟨(f.cell (p:=⟨w.heap.size,0,none⟩) E).trans c0,(f.cell (p:=⟨w.heap.size,1,none⟩) E).trans c1,(f.cell (p:=⟨w.heap.size,2,none⟩) E).trans c2,(f.cell (p:=⟨w.heap.size,3,none⟩) E).trans c3,(f.cell (p:=⟨w.heap.size,4,none⟩) E).trans c4,(f.cell (p:=⟨w.heap.size,5,none⟩) E).trans c5⟩
  go_upto_region 2 with fail
  go_cut [7] (λs7 R=>s7=.int .i64 (aK [fU (!wd||(n6==0)) 2,fU (!it) 6])/\Below wc.heap.size wc R)
  case first=>
   cases wd with
   |true=>
    refine BJ k w t co cn cc ro rn rc uo un uc wc n6 it E c0 c1 c2 c3 c4 c5 HW g8 _ _ _ _ _ _ _ _ _ _ _ _ _ _ _ _ _ _ _ _ _ _ _ _ _ _ _ _ _ _ _ _ _ _ _ _ _ _ _ _ _ _ _ _ _ _ _ _ _ _ _ _ _ _ _ _ _ _ _ _ _ _ _ _ _ _ _ _ _ _ _ _ _ _ _ ?_;intro q3 q4 v20 v21 q5 q6 q7 q8 q9 s0 s1 s2 s3 s4 s5 R V;dsimp only
    go_wp2_with fail
    go_meet;exact⟨rfl,V⟩
   |false=>
    refine BI k w t co cn cc ro rn rc uo un uc wc n6 it E c0 c1 c2 c3 c4 c5 HW g8 _ _ _ _ _ _ _ _ _ _ _ _ _ _ _ _ _ _ _ _ _ _ _ _ _ _ _ _ _ _ _ _ _ _ _ _ _ _ _ _ _ _ _ _ _ _ _ _ _ _ _ _ _ _ _ _ _ _ _ _ _ _ _ _ _ _ _ _ _ _ _ _ _ _ _ ?_;intro q3 q4 v20 v21 q5 q6 q7 q8 q9 s0 s1 s2 s3 s4 s5 R V;dsimp only
    go_wp2_with fail
    go_meet;exact⟨rfl,V⟩
  case rest=>
   obtain⟨rfl,n7⟩:=hcut;obtain⟨n0,i2⟩:∃n0,n0=aK [fU (!wd||(n6==0)) 2,fU (!it) 6]:=⟨_,rfl⟩;rw[<-i2];have T:Hid _:=i2;have B2:Below W.heap.size W wc:=K.trans (n7.mono K.size);clear i2 g9 g8 HW HT c0 c1 c2 c3 c4 c5 kb;by_cases h0:n0=0
   ·subst h0;have b6:=(B2.block w.heap.size e2).trans j;have c1:wc.cell? ⟨w.heap.size,1,none⟩=some (.slice co cn cc):=(af b6).trans rfl;have c4:wc.cell? ⟨w.heap.size,4,none⟩=some (.string (aa t.aD)):=(af b6).trans rfl;obtain⟨e0,_⟩:=mi ((B2.block k Y).trans L);have e7:w.heap.size<wc.heap.size:=by have:=B2.size;omega
    have k6:k<wc.heap.size:=by omega
    have Bw:Below w.heap.size w wc:=d.trans (B2.mono d.size);generalize p6:wc=wo at*;clear p6;obtain⟨ns,i3⟩:∃ns,ns=t.ax.map (dO [114,111,119]):=⟨_,rfl⟩;obtain⟨rd,i4⟩:∃rd,rd=eG bA (ns,[]) fns t.aD:=⟨_,rfl⟩;have j1:∀x:World,Below wo.heap.size wo x->Calls prog 189 #[.string ⟨#[114,111,119]⟩,.slice co cn cc] x λe w'=>∃no nn nc,e=.returned (.slice no nn nc)/\iH w' (.slice no nn nc) ns/\Below x.heap.size x w'/\Below wo.heap.size wo w':=by
     intro x f;have p7:Below w.heap.size w x:=Bw.trans (f.mono Bw.size);refine(Mm x [114,111,119] (by simp) _ t.ax (hC.ag p7) (Z T.out).1 (Z T.out).2).mono λe w' h=> ?_;obtain⟨no,nn,nc,J,h2,h3⟩:=h;exact⟨no,nn,nc,J,by rw[i3];exact h2,h3,f.trans (h3.mono f.size)⟩
    have j4:∀(x:World) (no:Option Addr) (nn nc:Nat),iH x (.slice no nn nc) ns->Below wo.heap.size wo x->Calls prog 187 #[.agg #[.slice no nn nc,.slice none 0 0,.slice fo v fc],.string (aa t.aD)] x λe w'=>(Below x.heap.size x w'/\Below wo.heap.size wo w')/\∃a0 a1 a2 a3 a4 a5 N O Q a9 i n,(a0.oneCell'=true/\a1.oneCell'=true/\a2.oneCell'=true/\a3.oneCell'=true/\a4.oneCell'=true/\a5.oneCell'=true/\N.oneCell'=true/\O.oneCell'=true/\Q.oneCell'=true/\a9.oneCell'=true/\i.oneCell'=true)/\e=.returned (.tuple #[.agg #[a0,a1,a2,a3,a4,a5,N,O,Q,a9,i],.int .i64 n])/\Hid (∃sort ty size quiet vk vn vs place head fp xo xn xc,[a0,a1,a2,a3,a4,a5,N,O,Q,a9,i]= [.int .i64 sort,.int .i64 ty,.int .i64 size,.bool quiet,.int .i64 vk,.int .i64 vn,.string (aa vs),.int .i64 place,.string (aa head),.pointer fp,.slice xo xn xc]/\((rd=.error n/\n≠0)\/(∃y,rd=.ok y/\n=0/\dJ w' FB (λg=>x.heap.size<=g) [a0,a1,a2,a3,a4,a5,N,O,Q,a9,i] y))):=by
     intro x no nn nc e1 f;have:=sD bA (ns,[]) fns hf (aa t.aD) (by rw[aF];exact l8) (λu hu=>KI _ u hu) x FB no nn nc none 0 0 fo v fc ⟨e1,⟨none,0,rfl,by simp,.inl rfl⟩,(hF.ag (Bw.trans (f.mono Bw.size)))⟩;rw[au,<-i4]at this;refine this.mono λe w' h=> ?_;obtain⟨hb,sort,ty,size,quiet,vk,vn,vs,place,head,fp,xo,xn,xc,n,rfl,HX⟩:=h.form;exact⟨⟨hb,f.trans (hb.mono f.size)⟩,_,_,_,_,_,_,_,_,_,_,_,n,⟨rfl,rfl,rfl,rfl,rfl,rfl,rfl,rfl,rfl,rfl,rfl⟩,rfl,sort,ty,size,quiet,vk,vn,vs,place,head,fp,xo,xn,xc,rfl,HX.out⟩
    have m9:Hid _:=i3;have n2:Hid _:=i4;clear i3 i4;go_upto_region 5 with fail
    go_cut [7,8] (λs7 s8 R=>∃(k8:Nat) (c:List Value) (n:Int),s7=.int .i64 n/\s8=.pointer (some ⟨k8,0,none⟩)/\Below wo.heap.size wo R/\wo.heap.size<=k8/\R.heap[k8]? =some (.cells c.toArray 210 (0,0))/\Hid (∃sort ty size quiet vk vn vs place head fp xo xn xc,c= [.int .i64 sort,.int .i64 ty,.int .i64 size,.bool quiet,.int .i64 vk,.int .i64 vn,.string (aa vs),.int .i64 place,.string (aa head),.pointer fp,.slice xo xn xc]/\((rd=.error n/\n≠0)\/(∃y,rd=.ok y/\n=0/\dJ R FB (λg=>wo.heap.size<=g) c y))))
    case first=>
     have h5:∀x:World,Below wo.heap.size wo x->x.cell? ⟨w.heap.size,1,none⟩=some (.slice co cn cc)/\x.cell? ⟨w.heap.size,4,none⟩=some (.string (aa t.aD))/\x.cell? ⟨k,0,none⟩=some (.slice fo v fc):=λx f=>⟨(f.cell (p:=⟨w.heap.size,1,none⟩) e7).trans c1,(f.cell (p:=⟨w.heap.size,4,none⟩) e7).trans c4,(f.cell (p:=⟨k,0,none⟩) k6).trans e0⟩;clear L X j b0 b1 d0 b6 Z hF hf T h6 h8 g6
     go_region_held2 (λx=>x.cell? ⟨w.heap.size,1,none⟩=some (.slice co cn cc)/\x.cell? ⟨w.heap.size,4,none⟩=some (.string (aa t.aD))/\x.cell? ⟨k,0,none⟩=some (.slice fo v fc)) (go_keep) (first
      |(go_at_call 189;refine(j1 _ ?_).mono ?_;(first|exact(Below.refl _ wo).drew|exact(ae wo _).drew);rintro e w2 ⟨no,nn,nc,rfl,e1,hb2,hB2'⟩;obtain⟨y0,y1,y2⟩:=h5 w2 hB2')
      |(go_at_call 187;refine(j4 _ _ _ _ ?_ ?_).mono ?_;(first|exact e1|exact e1.ag (ae _ _));(first|exact hB2'|exact hB2'.alloc hB2'.size _);rintro e w3 ⟨⟨k5,hB3⟩,a0,a1,a2,a3,a4,a5,N,O,Q,a9,i,n,⟨o0,o1,o2,o3,o4,o5,o6,o7,o8,o9,e3⟩,rfl,HX⟩;
        (first
         |(have m1:=SY hb2 k5;have m0:=m1.1;obtain⟨x1,x2,x3,x4,x5,x6,x7,x8,x9,m6,q,r0,r1,r2,r3,r4,r5,r6,r7,r8,r9,m5,b3,C,z⟩:=qU (P:=prog) m0 a0 a1 a2 a3 a4 a5 N O Q a9 i o0 o1 o2 o3 o4 o5 o6 o7 o8 o9 e3;have b8:Below wo.heap.size wo q:=z _ _ (Nat.le_refl _) hB3;have HM:Hid (∀g,w2.heap.size<=g->g<w3.heap.size->q.heap[g]? =w3.heap[g]?):=(λg J _=>C g (λe=>by have:=m1.2;omega));have S:Hid (wo.heap.size<=wo.heap.size/\wo.heap.size<=w2.heap.size):=⟨Nat.le_refl _,hB2'.size⟩)
         |(have m0:=Ta k5;obtain⟨x1,x2,x3,x4,x5,x6,x7,x8,x9,m6,q,r0,r1,r2,r3,r4,r5,r6,r7,r8,r9,m5,b3,C,z⟩:=qU (P:=prog) m0 a0 a1 a2 a3 a4 a5 N O Q a9 i o0 o1 o2 o3 o4 o5 o6 o7 o8 o9 e3;have b8:Below wo.heap.size wo q:=z _ _ hB2'.size hB3;have HM:Hid (∀g,w2.heap.size+1<=g->g<w3.heap.size->q.heap[g]? =w3.heap[g]?):=(λg J _=>C g (λe=>by omega));have S:Hid (wo.heap.size<=w2.heap.size/\wo.heap.size<=w2.heap.size+1):=⟨hB2'.size,Nat.le_succ_of_le hB2'.size⟩)
         |(have m0:=heap_alloc_new w3 EJ;obtain⟨x1,x2,x3,x4,x5,x6,x7,x8,x9,m6,q,r0,r1,r2,r3,r4,r5,r6,r7,r8,r9,m5,b3,C,z⟩:=qU (P:=prog) m0 a0 a1 a2 a3 a4 a5 N O Q a9 i o0 o1 o2 o3 o4 o5 o6 o7 o8 o9 e3;have b8:Below wo.heap.size wo q:=z _ _ hB3.size (hB3.alloc hB3.size _);have HM:Hid (∀g,w2.heap.size<=g->g<w3.heap.size->q.heap[g]? =w3.heap[g]?):=(λg _ h2=>(C g (λe=>by omega)).trans (Below.heap_alloc _ _ _ h2));have S:Hid (wo.heap.size<=w3.heap.size/\wo.heap.size<=w2.heap.size):=⟨hB3.size,hB2'.size⟩));
        obtain⟨t0,t1,t2⟩:=h5 w3 hB3;obtain⟨v0,v1,v2⟩:=h5 q b8))
     all_goals(go_wp2_with fail;go_meet)
     all_goals
      refine⟨_,[a0,a1,a2,a3,a4,a5,N,O,Q,a9,i],n,rfl,rfl,b8,S.out.1,b3, ?_⟩;obtain⟨sort,ty,size,quiet,vk,vn,vs,place,head,fp,xo,xn,xc,hc,h⟩:=HX.out;refine⟨sort,ty,size,quiet,vk,vn,vs,place,head,fp,xo,xn,xc,hc, ?_⟩;rcases h with h|⟨y,J,h2,h3⟩
      ·exact .inl h
      ·exact .inr ⟨y,J,h2,Ol h3 (by first|exact HM.out|(intro g hg;exact HM.out g (by simpa[World.size_alloc]using hg))) (by first|exact S.out.2|simpa[World.size_alloc]using S.out.2)⟩
    case rest=>
     obtain⟨k8,c,n,rfl,rfl,n8,u9,A,HX⟩:=hcut;obtain⟨sort,ty,size,quiet,vk,vn,vs,place,head,fp,xo,xn,xc,rfl,j5⟩:=HX.out;have h9:Hid _:=j5;clear j5 HX j1 j4;generalize p4:wc=w5 at*;clear p4;have B5:Below W.heap.size W w5:=B2.trans (n8.mono B2.size);have u5:Below w.heap.size w w5:=d.trans (B5.mono d.size);obtain⟨⟨y0,y1,y2,y3,y4,y5,y6,y7,y8,y9,i9⟩,_⟩:=bz A;have l0:=ai A;obtain⟨pb,D⟩:∃b,b=(!(ty==3)|| !quiet):=⟨_,rfl⟩;go_upto_region 6 with fail
     go_cut [7] (λs7 R=>s7=.int .i64 (aK [n,fU pb 5])/\Below w5.heap.size w5 R)
     case first=>
      have g5:∀m:Int,Calls prog 66 #[.slice (some ⟨w5.heap.size,0,none⟩) 2 2] (w5.alloc (.cells #[.int .i64 n,.int .i64 m] 68)) λe w'=>e=.returned (.int .i64 (aK [n,m]))/\w'=w5.alloc (.cells #[.int .i64 n,.int .i64 m] 68):=λm=>nk w5 n m;clear A c1 c4 e0 L X j b0 b1 d0 b6;by_cases c6:ty=3
      ·subst c6
       cases quiet with
       |true=>
        obtain rfl:pb=false:=by rw[D];rfl
        clear D
        go_wp2_with(first
         |(go_at_call 123;refine(jf _ _ _).mono ?_;rintro e w4 ⟨rfl,rfl⟩)
         |(go_at_call 66;refine(g5 _).mono ?_;rintro e I ⟨rfl,rfl⟩))
        go_meet;exact⟨rfl,ae _ _⟩
       |false=>
        obtain rfl:pb=true:=by rw[D];rfl
        clear D
        go_wp2_with(first
         |(go_at_call 123;refine(jf _ _ _).mono ?_;rintro e w4 ⟨rfl,rfl⟩)
         |(go_at_call 66;refine(g5 _).mono ?_;rintro e I ⟨rfl,rfl⟩))
        go_meet;exact⟨rfl,ae _ _⟩
      ·have e6:(ty==3)=false:=by simpa using c6
       obtain rfl:pb=true:=by rw[D,e6];rfl
       have u3:(ty != 3)=true:=by simpa using c6
       clear D c6 e6
       go_wp2_with(first
        |(go_at_call 123;refine(jf _ _ _).mono ?_;rintro e w4 ⟨rfl,rfl⟩)
        |(go_at_call 66;refine(g5 _).mono ?_;rintro e I ⟨rfl,rfl⟩))
       go_meet;exact⟨rfl,ae _ _⟩
     case rest=>
      obtain⟨rfl,c7⟩:=hcut;have j3:Hid _:=D;clear D y0 y1 y2 y3 y4 y5 y6 y7 y8 y9 i9;generalize p5:wc=I at*;clear p5;have B6:Below W.heap.size W I:=B5.trans (c7.mono B5.size);have b9:Below w.heap.size w I:=d.trans (B6.mono d.size);have i1:aK [fU (!aU t.name||(oW s t.name==0)) 2,fU (!bJ t) 6]=0:=by
       rw[<-h6.out,<-h8.out,<-g6.out];exact T.out.symm
      have U:cZ fns s t=Ac rd:=by
       rw[cZ,i1,if_neg (by decide),n2.out,m9.out]
      obtain⟨n1,M⟩:∃n1,n1=aK [n,fU pb 5]:=⟨_,rfl⟩;rw[<-M];by_cases J:n1=0
      ·have hz:n=0/\pb=false:=LC (M.symm.trans J);obtain⟨rfl,rfl⟩:=hz;obtain⟨y,hy,b5⟩:∃y,rd=.ok y/\dJ w5 FB (λg=>wo.heap.size<=g) [.int .i64 sort,.int .i64 ty,.int .i64 size,.bool quiet,.int .i64 vk,.int .i64 vn,.string (aa vs),.int .i64 place,.string (aa head),.pointer fp,.slice xo xn xc] y:=by
        rcases h9.out with⟨_,h⟩|⟨y,J,_,h2⟩
        ·exact absurd rfl h
        ·exact⟨y,J,h2⟩
       have i8:y.ty=ty/\y.quiet=quiet:=Kn b5;have HO:Hid (cZ fns s t=.ok y):=by
        rw[Hid,U,hy,Ac,i8.1,i8.2,<-j3.out];rfl
       have m2:dJ I FB (λg=>wo.heap.size<=g) [.int .i64 sort,.int .i64 ty,.int .i64 size,.bool quiet,.int .i64 vk,.int .i64 vn,.string (aa vs),.int .i64 place,.string (aa head),.pointer fp,.slice xo xn xc] y:=b5.ag c7;have m4:=(B6.block w.heap.size e2).trans j;obtain⟨⟨c0,c1,c2,c3,c4,c5⟩,_⟩:=Tg m4;have m3:=(c7.block k8 l0).trans A;obtain⟨⟨y0,y1,y2,y3,y4,y5,y6,y7,y8,y9,i9⟩,_⟩:=bz m3;have e5:=(B6.block k Y).trans L;obtain⟨f0,u6,f1,u7⟩:=mi e5;have i6:w.ownsRow (k+1) 235 17 (.slice l tn tc) s.length (dX H):=h7.out;have b7:I.ownsRow (k+1) 235 17 (.slice l tn tc) s.length (dX H):=aA i6 λg hg=>b9.block g (i6.lt g hg).2;have j2:∀o:Obj,(I.alloc o).drew.ownsRow (k+1) 235 17 (.slice l tn tc) s.length (dX H):=λo=>World.ownsRow.drew (World.ownsRow.alloc b7 o);have p3:(slice l tn tc).ownBlock≠some k:=λe=>by have:=(b7.lt _ e).1;omega
       have k9:k<I.heap.size:=by have:=b9.size;omega
       have u4:w.heap.size<I.heap.size:=by have:=B6.size;omega
       have p0:k8<I.heap.size:=by have:=c7.size;omega
       have n4:Hid _:=m2;have j0:Hid _:=e5;obtain⟨i0,hi,p8,p9,q0⟩:=info_parts QX;subst J;clear i6 M U i1 b5 m2 hy i8 A m3 m4 L X j b0 b1 d0 Z hF hf h9 l8 b6;obtain⟨d0,E0⟩:∃a,Hid (a=string (aa t.name)):=⟨_,rfl⟩;rw[<-E0.out]at c0;have o0:d0.oneCell'=true:=by rw[E0.out];rfl
       obtain⟨d1,E1⟩:∃a,Hid (a=slice co cn cc):=⟨_,rfl⟩;rw[<-E1.out]at c1;have o1:d1.oneCell'=true:=by rw[E1.out];rfl
       obtain⟨d2,E2⟩:∃a,Hid (a=slice ro rn rc):=⟨_,rfl⟩;rw[<-E2.out]at c2;have o2:d2.oneCell'=true:=by rw[E2.out];rfl
       obtain⟨d3,E3⟩:∃a,Hid (a=int .i64 t.count):=⟨_,rfl⟩;rw[<-E3.out]at c3;have o3:d3.oneCell'=true:=by rw[E3.out];rfl
       obtain⟨d4,E4⟩:∃a,Hid (a=string (aa t.aD)):=⟨_,rfl⟩;rw[<-E4.out]at c4;have o4:d4.oneCell'=true:=by rw[E4.out];rfl
       obtain⟨d5,E5⟩:∃a,Hid (a=slice uo un uc):=⟨_,rfl⟩;rw[<-E5.out]at c5;have o5:d5.oneCell'=true:=by rw[E5.out];rfl
       obtain⟨d6,E6⟩:∃a,Hid (a=int .i64 sort):=⟨_,rfl⟩;rw[<-E6.out]at y0;have o6:d6.oneCell'=true:=by rw[E6.out];rfl
       obtain⟨d7,E7⟩:∃a,Hid (a=int .i64 ty):=⟨_,rfl⟩;rw[<-E7.out]at y1;have o7:d7.oneCell'=true:=by rw[E7.out];rfl
       obtain⟨d8,E8⟩:∃a,Hid (a=int .i64 size):=⟨_,rfl⟩;rw[<-E8.out]at y2;have o8:d8.oneCell'=true:=by rw[E8.out];rfl
       obtain⟨d9,E9⟩:∃a,Hid (a=Value.bool quiet):=⟨_,rfl⟩;rw[<-E9.out]at y3;have o9:d9.oneCell'=true:=by rw[E9.out];rfl
       obtain⟨d10,e8⟩:∃a,Hid (a=int .i64 vk):=⟨_,rfl⟩;rw[<-e8.out]at y4;have e3:d10.oneCell'=true:=by rw[e8.out];rfl
       obtain⟨d11,e9⟩:∃a,Hid (a=int .i64 vn):=⟨_,rfl⟩;rw[<-e9.out]at y5;have v4:d11.oneCell'=true:=by rw[e9.out];rfl
       obtain⟨d12,g0⟩:∃a,Hid (a=string (aa vs)):=⟨_,rfl⟩;rw[<-g0.out]at y6;have v6:d12.oneCell'=true:=by rw[g0.out];rfl
       obtain⟨d13,g1⟩:∃a,Hid (a=int .i64 place):=⟨_,rfl⟩;rw[<-g1.out]at y7;have v7:d13.oneCell'=true:=by rw[g1.out];rfl
       obtain⟨d14,g2⟩:∃a,Hid (a=string (aa head)):=⟨_,rfl⟩;rw[<-g2.out]at y8;have v8:d14.oneCell'=true:=by rw[g2.out];rfl
       obtain⟨d15,g3⟩:∃a,Hid (a=Value.pointer fp):=⟨_,rfl⟩;rw[<-g3.out]at y9;have w1:d15.oneCell'=true:=by rw[g3.out];rfl
       obtain⟨d16,g4⟩:∃a,Hid (a=slice xo xn xc):=⟨_,rfl⟩;rw[<-g4.out]at i9;have w8:d16.oneCell'=true:=by rw[g4.out];rfl
       go_upto_region 9 with fail
       go_region_law (refine step_append_lies _ rfl (.tmp 69) (.tmp 73) 192 rfl (k+1) 235 i0 _ 17 232 Tryz.underlying192 hi p8 p9 q0 rfl (by decide) (.slice l tn tc) s.length (dX H) (by simp[Act.eval]) (j2 _) ⟨I.heap.size,0,none⟩ 1 1 [d0,d1,d2,d3,d4,d5,d6,d7,d8,d9,d10,d11,d12,d13,d14,d15,d16] (by simp[Act.eval]) rfl (World.news_of_block (bN I _)) (by intro u hu;simp only[List.mem_cons,List.not_mem_nil,or_false]at hu;rcases hu with rfl|rfl|rfl|rfl|rfl|rfl|rfl|rfl|rfl|rfl|rfl|rfl|rfl|rfl|rfl|rfl|rfl<;>assumption) (by decide) (by unfold maxLen;omega) (by omega) (by simp;omega) (I.heap.size+1) (by simp) ?_;intro g7 s9 w7 b4 G u0 u1;have kB:w7.heap[k]? =_:=(G.block k (by simp;omega) p3.symm).trans ((Below.heap_alloc _ _ _ k9).trans j0.out);have u8:=ai kB;obtain⟨r0,t0,r1,t1⟩:=mi kB)
       all_goals(go_wp2_with fail;go_ret)
       all_goals
        have k4: [d0,d1,d2,d3,d4,d5,d6,d7,d8,d9,d10,d11,d12,d13,d14,d15,d16]=(fw.arr ⟨t.name,co,cn,cc,ro,rn,rc,t.count,t.aD,uo,un,uc,sort,ty,size,quiet,vk,vn,vs,place,head,fp,xo,xn,xc⟩).toList:=by
         rw[E0.out,E1.out,E2.out,E3.out,E4.out,E5.out,E6.out,E7.out,E8.out,E9.out,e8.out,e9.out,g0.out,g1.out,g2.out,g3.out,g4.out]
        rw[k4]at b4;obtain⟨A1,A2⟩:=Sb (r:=⟨t.name,co,cn,cc,ro,rn,rc,t.count,t.aD,uo,un,uc,sort,ty,size,quiet,vk,vn,vs,place,head,fp,xo,xn,xc⟩) n5 c8 k7 b9 j0.out m8.out b7 l9 h3 l7 n3.out ⟨rfl,rfl,rfl,k2,k3,n9⟩ n4.out b4 G kB;exact .inr ⟨y,HO.out,rfl,A1,A2⟩
      ·have HE:Hid (cZ fns s t=.error n1):=by
        rcases h9.out with⟨he,l4⟩|⟨y,hy,rfl,b5⟩
        ·have:n1=n:=by rw[M];exact Ox l4
         rw[Hid,U,he,this];rfl
        ·obtain⟨q1,q2⟩:y.ty=ty/\y.quiet=quiet:=Kn b5;have hp:pb=true/\n1=5:=IE M J;rw[Hid,U,hy,Ac,q1,q2,<-j3.out,hp.1,hp.2];rfl
       have u2:(n1==0)=false:=by simpa using J
       clear M U i1
       go_wp2_with fail
       go_ret;exact .inl ⟨n1,HE.out,J,rfl,b9⟩
   ·have v3:(n0==0)=false:=by simpa using h0
    have l5:=True.intro;have m7:Below w.heap.size w wc:=d.trans (B2.mono d.size);have HE:Hid (cZ fns s t=.error n0):=by
     have e:aK [fU (!aU t.name||(oW s t.name==0)) 2,fU (!bJ t) 6]=n0:=by
      rw[T.out,h6.out,h8.out,g6.out]
     rw[Hid,cZ,e,if_pos h0]
    clear l5
    go_wp2_with fail
    go_ret;exact .inl ⟨n0,HE.out,h0,rfl,m7⟩
end Go.Proofs.YtdifpeaklamhnaaGreatDoor
