import Derived.Test.YtdifpeaklamhnaaGreatDoorAtDZ
set_option linter.unusedVariables false
set_option linter.unusedSimpArgs false
set_option maxRecDepth 100000
set_option maxHeartbeats 0
namespace Go.Proofs.YtdifpeaklamhnaaGreatDoor
open Go.Proofs.Tryz
open Go.RowKit
open Value (slice string int)
open Below (heap_alloc refl)
open World (size_alloc)
theorem Ls{n:Int}{a:Bool}(h:aM [n,gG a 5]=0):n=0/\a=false:=by
 simp only[aM]at h;by_cases b:n=0
 ·subst b;cases a
  ·exact⟨rfl,rfl⟩
  ·revert h;simp[gG]
 ·exfalso;revert h;simp[b]
theorem Ou{n m:Int}(h:n≠0):aM [n,m]=n:=by simp[aM,h]
theorem IA{a:Int}{b:Bool}(h:a=aM [0,gG b 5])(c:a≠0):b=true/\a=5:=by
 cases b
 ·exfalso;apply c;rw[h];rfl
 ·exact⟨rfl,by rw[h];rfl⟩
theorem JU{w:World}{i:List Nat}{S:Nat->Prop}{sort ty size:Int}{quiet:Bool}{vk vn:Int}{vs:Bs}{place:Int}{head:Bs}{fp xo:Option Addr}{xn xc:Nat}{y:Ex}(h:dG w i S [.int .i64 sort,.int .i64 ty,.int .i64 size,.bool quiet,.int .i64 vk,.int .i64 vn,.string (aa vs),.int .i64 place,.string (aa head),.pointer fp,.slice xo xn xc] y):y.ty=ty/\y.quiet=quiet:=by
 obtain⟨f,k,e,b,l,m,n,a,d,s,g,j,r,q,o,p,rfl,c,_⟩:=h.inv;simp only[List.cons.injEq,Value.int.injEq,Value.bool.injEq,true_and]at c;exact⟨c.2.1.symm,c.2.2.2.1.symm⟩
theorem TJ{x:World}{b:Nat}{a0 a1 a2 a3 a4 a5:Value}{T:TypeId}(h:x.heap[b]? =some (.cells #[a0,a1,a2,a3,a4,a5] T (0,0))):
  (x.cell? ⟨b,0,none⟩=some a0/\x.cell? ⟨b,1,none⟩=some a1/\x.cell? ⟨b,2,none⟩=some a2/\x.cell? ⟨b,3,none⟩=some a3/\x.cell? ⟨b,4,none⟩=some a4/\x.cell? ⟨b,5,none⟩=some a5)/\x.frozen? ⟨b,0,none⟩=false:=by
 simp[World.cell?,World.frozen?,h]
theorem Cb(w0 w:World)(k:Nat)(FB:List Nat)(fns:List Fn)(s:List (aT × Ex))(hB:pE w0 w k FB fns s)(h3:s.length<=3)(hf:∀fn∈fns,0<=fn.body.size/\fn.body.size<=300)(t:aT)(co:Option Addr)(cn cc:Nat)(ro:Option Addr)(rn rc:Nat)(uo:Option Addr)(un uc:Nat)
  (k2:dX w0 (.slice co cn cc) t.ay) (k3:RowsIn w0 (.slice ro rn rc) t.rows) (n9:iX w0 (.slice uo un uc) t.lX) (p1:t.name.length<=maxLen) (l8:t.aG.length<=maxLen):
  Calls prog 111 #[.pointer (some ⟨k,0,none⟩),.agg #[.string (aa t.name),.slice co cn cc,.slice ro rn rc,.int .i64 t.count,.string (aa t.aG),.slice uo un uc]] w λe w'=>Qq w0 w k FB fns s t (dI fns s t) e w':=by
 obtain⟨fo,v,fc,l,tn,tc,H,n5,c8,X,hF,F,l9,h4,l7,i5⟩:=hB;have hT:=Kt c8 F l9 h4 i5;have hC:=k2.ah c8;have hR:=k3.ah c8;obtain⟨wd,i7⟩:∃b,b=aS t.name:=⟨_,rfl⟩;obtain⟨it,b2⟩:∃b,b=cu t:=⟨_,rfl⟩;have k7:=af X;have Z:0=aM [gG (!wd||(qi s t.name==0)) 2,gG (!it) 6]->t.ay.length<=1000/\∀c∈t.ay,c.1.length<=1000:=by
  intro h;have h2:it=true:=by
   cases it
   ·exfalso;revert h;cases wd<;>cases(qi s t.name==0)<;>decide
   ·rfl
  rw[h2]at b2;exact yJ (sW b2.symm)
 have HW:∀x:World,Calls prog 171 #[.string (aa t.name)] x λe w'=>e=.returned (.bool wd)/\w'=x:=by
  intro x;have:=kI (aa t.name) x (by rw[aF];exact p1);rw[aj]at this;rw[i7];exact this
 obtain⟨n6,c9⟩:∃n,n=qi s t.name:=⟨_,rfl⟩;rw[<-c9]at Z;obtain⟨W,hW⟩:∃W,W=w.alloc (ML t co cn cc ro rn rc uo un uc):=⟨_,rfl⟩;have L:W.heap[k]? =some (.cells #[.slice fo v fc,.slice l tn tc] 194 (0,0)):=by rw[hW,heap_alloc _ _ _ k7];exact X
 have d:Below w.heap.size w W:=by rw[hW];exact ae w _
 have j:W.heap[w.heap.size]? =some (ML t co cn cc ro rn rc uo un uc):=by rw[hW];exact heap_alloc_new w _
 obtain⟨b0,_,b1,_⟩:=jq L;have d0:W.cell? ⟨w.heap.size,0,none⟩=some (.string (aa t.name)):=(ag j).trans rfl;have Y:k<W.heap.size:=by have:=d.size;omega
 have p2:W.heap.size=w.heap.size+1:=by rw[hW];simp[size_alloc]
 have e4:w.alloc (ML t co cn cc ro rn rc uo un uc)=W:=hW.symm;have HT:∀x:World,Below W.heap.size W x->Calls prog 76 #[.agg #[.slice fo v fc,.slice l tn tc],.string (aa t.name)] x λe w'=>Below W.heap.size W w'/\Below x.heap.size x w'/\∃a0 a1 a2 a3 a4 a5 N O Q a9 i j6 j7 j8 j9 k0 k1,Np a0 a1 a2 a3 a4 a5 N O Q a9 i j6 j7 j8 j9 k0 k1/\e=.returned (.tuple #[.agg #[a0,a1,a2,a3,a4,a5,N,O,Q,a9,i,j6,j7,j8,j9,k0,k1],.int .i64 n6]):=by
  intro x f;refine(Ci x FB s fo v fc l tn tc (hT.ah (d.trans (f.mono d.size))) t.name).mono λe w' h=>⟨f.trans (h.1.mono f.size),h.1,by rw[c9];exact h.2⟩
 have e2:w.heap.size<W.heap.size:=by omega
 have h6:Hid _:=c9;have h8:Hid _:=i7;have g6:Hid _:=b2;have n3:Hid _:=i5;have h7:Hid _:=F;have m8:Hid _:=hF;clear hW hT c9 i7 i5 F;go_enter Tryz.func111,Tryz.ntmps111;go_upto_region 1 with fail
 try rw[e4]
 clear e4;go_cut [6] (λs6 R=>s6=.int .i64 n6/\Below W.heap.size W R)
 case first=>
  refine Eg k w W t co cn cc ro rn rc uo un uc fo v fc l tn tc n6 Y e2 p2 b0 b1 d0 HT _ _ _ _ _ _ _ _ _ _ _ _ _ _ _ _ _ _ _ _ _ _ _ _ _ _ _ _ _ _ _ _ _ _ _ _ _ _ _ _ _ _ _ _ _ _ _ _ _ _ _ _ _ _ _ _ _ _ _ _ _ _ _ _ _ _ _ _ _ _ _ _ _ _ _ _ ?_;intro v5 v9 w9 x0 z0 z1 z2 z3 z4 z5 R V;dsimp only
  go_wp2_with fail
  go_meet;exact⟨rfl,V⟩
 case rest=>
  obtain⟨rfl,K⟩:=hcut;have kb:=(K.block w.heap.size e2).trans j;have c0:wc.cell? ⟨w.heap.size,0,none⟩=some (.string (aa t.name)):=(ag kb).trans rfl;have c1:wc.cell? ⟨w.heap.size,1,none⟩=some (.slice co cn cc):=(ag kb).trans rfl;have c2:wc.cell? ⟨w.heap.size,2,none⟩=some (.slice ro rn rc):=(ag kb).trans rfl;have c3:wc.cell? ⟨w.heap.size,3,none⟩=some (.int .i64 t.count):=(ag kb).trans rfl;have c4:wc.cell? ⟨w.heap.size,4,none⟩=some (.string (aa t.aG)):=(ag kb).trans rfl;have c5:wc.cell? ⟨w.heap.size,5,none⟩=some (.slice uo un uc):=(ag kb).trans rfl;have E:w.heap.size<wc.heap.size:=by have:=K.size;omega
  have g8:∀x:World,Below wc.heap.size wc x->Calls prog 188 #[.agg #[.string (aa t.name),.slice co cn cc,.slice ro rn rc,.int .i64 t.count,.string (aa t.aG),.slice uo un uc]] x λe w'=>Below wc.heap.size wc w'/\e=.returned (.bool it):=by
   intro x f;have B:Below w.heap.size w x:=d.trans ((K.trans (f.mono K.size)).mono d.size);exact(Fa x t co cn cc ro rn rc uo un uc (hC.ah B) (hR.ah B)).mono λe w' h=>⟨f.trans (h.2.mono f.size),by rw[b2];exact h.1⟩
  clear b2;have g9:∀x:World,Below wc.heap.size wc x->x.cell? ⟨w.heap.size,0,none⟩=some (.string (aa t.name))/\x.cell? ⟨w.heap.size,1,none⟩=some (.slice co cn cc)/\x.cell? ⟨w.heap.size,2,none⟩=some (.slice ro rn rc)/\x.cell? ⟨w.heap.size,3,none⟩=some (.int .i64 t.count)/\x.cell? ⟨w.heap.size,4,none⟩=some (.string (aa t.aG))/\x.cell? ⟨w.heap.size,5,none⟩=some (.slice uo un uc):=λx f=>
   ⟨(f.cell (p:=⟨w.heap.size,0,none⟩) E).trans c0,(f.cell (p:=⟨w.heap.size,1,none⟩) E).trans c1,(f.cell (p:=⟨w.heap.size,2,none⟩) E).trans c2,(f.cell (p:=⟨w.heap.size,3,none⟩) E).trans c3,(f.cell (p:=⟨w.heap.size,4,none⟩) E).trans c4,(f.cell (p:=⟨w.heap.size,5,none⟩) E).trans c5⟩
  go_upto_region 2 with fail
  go_cut [7] (λs7 R=>s7=.int .i64 (aM [gG (!wd||(n6==0)) 2,gG (!it) 6])/\Below wc.heap.size wc R)
  case first=>
   cases wd with
   |true=>
    refine Ce k w t co cn cc ro rn rc uo un uc wc n6 it E c0 c1 c2 c3 c4 c5 HW g8 _ _ _ _ _ _ _ _ _ _ _ _ _ _ _ _ _ _ _ _ _ _ _ _ _ _ _ _ _ _ _ _ _ _ _ _ _ _ _ _ _ _ _ _ _ _ _ _ _ _ _ _ _ _ _ _ _ _ _ _ _ _ _ _ _ _ _ _ _ _ _ _ _ _ _ ?_;intro q3 q4 v20 v21 q5 q6 q7 q8 q9 s0 s1 s2 s3 s4 s5 R V;dsimp only
    go_wp2_with fail
    go_meet;exact⟨rfl,V⟩
   |false=>
    refine Cc k w t co cn cc ro rn rc uo un uc wc n6 it E c0 c1 c2 c3 c4 c5 HW g8 _ _ _ _ _ _ _ _ _ _ _ _ _ _ _ _ _ _ _ _ _ _ _ _ _ _ _ _ _ _ _ _ _ _ _ _ _ _ _ _ _ _ _ _ _ _ _ _ _ _ _ _ _ _ _ _ _ _ _ _ _ _ _ _ _ _ _ _ _ _ _ _ _ _ _ ?_;intro q3 q4 v20 v21 q5 q6 q7 q8 q9 s0 s1 s2 s3 s4 s5 R V;dsimp only
    go_wp2_with fail
    go_meet;exact⟨rfl,V⟩
  case rest=>
   obtain⟨rfl,n7⟩:=hcut;obtain⟨n0,i2⟩:∃n0,n0=aM [gG (!wd||(n6==0)) 2,gG (!it) 6]:=⟨_,rfl⟩;rw[<-i2];have T:Hid _:=i2;have B2:Below W.heap.size W wc:=K.trans (n7.mono K.size);clear i2 g9 g8 HW HT c0 c1 c2 c3 c4 c5 kb;by_cases h0:n0=0
   ·subst h0;have b6:=(B2.block w.heap.size e2).trans j;have c1:wc.cell? ⟨w.heap.size,1,none⟩=some (.slice co cn cc):=(ag b6).trans rfl;have c4:wc.cell? ⟨w.heap.size,4,none⟩=some (.string (aa t.aG)):=(ag b6).trans rfl;obtain⟨e0,_⟩:=jq ((B2.block k Y).trans L);have e7:w.heap.size<wc.heap.size:=by have:=B2.size;omega
    have k6:k<wc.heap.size:=by omega
    have Bw:Below w.heap.size w wc:=d.trans (B2.mono d.size);generalize p6:wc=wo at*;clear p6;obtain⟨ns,i3⟩:∃ns,ns=t.ay.map (fD [114,111,119]):=⟨_,rfl⟩;obtain⟨rd,i4⟩:∃rd,rd=eZ bi (ns,[]) fns t.aG:=⟨_,rfl⟩;have j1:∀x:World,Below wo.heap.size wo x->Calls prog 189 #[.string ⟨#[114,111,119]⟩,.slice co cn cc] x λe w'=>∃no nn nc,e=.returned (.slice no nn nc)/\iK w' (.slice no nn nc) ns/\Below x.heap.size x w'/\Below wo.heap.size wo w':=by
     intro x f;have p7:Below w.heap.size w x:=Bw.trans (f.mono Bw.size);refine(Md x [114,111,119] (by simp) _ t.ay (hC.ah p7) (Z T.out).1 (Z T.out).2).mono λe w' h=> ?_;obtain⟨no,nn,nc,J,h2,h3⟩:=h;exact⟨no,nn,nc,J,by rw[i3];exact h2,h3,f.trans (h3.mono f.size)⟩
    have j4:∀(x:World) (no:Option Addr) (nn nc:Nat),iK x (.slice no nn nc) ns->Below wo.heap.size wo x->Calls prog 187 #[.agg #[.slice no nn nc,.slice none 0 0,.slice fo v fc],.string (aa t.aG)] x λe w'=>(Below x.heap.size x w'/\Below wo.heap.size wo w')/\∃a0 a1 a2 a3 a4 a5 N O Q a9 i n,(a0.oneCell'=true/\a1.oneCell'=true/\a2.oneCell'=true/\a3.oneCell'=true/\a4.oneCell'=true/\a5.oneCell'=true/\N.oneCell'=true/\O.oneCell'=true/\Q.oneCell'=true/\a9.oneCell'=true/\i.oneCell'=true)/\e=.returned (.tuple #[.agg #[a0,a1,a2,a3,a4,a5,N,O,Q,a9,i],.int .i64 n])/\Hid (∃sort ty size quiet vk vn vs place head fp xo xn xc,[a0,a1,a2,a3,a4,a5,N,O,Q,a9,i]= [.int .i64 sort,.int .i64 ty,.int .i64 size,.bool quiet,.int .i64 vk,.int .i64 vn,.string (aa vs),.int .i64 place,.string (aa head),.pointer fp,.slice xo xn xc]/\((rd=.error n/\n≠0)\/(∃y,rd=.ok y/\n=0/\dG w' FB (λg=>x.heap.size<=g) [a0,a1,a2,a3,a4,a5,N,O,Q,a9,i] y))):=by
     intro x no nn nc e1 f;have:=sG bi (ns,[]) fns hf (aa t.aG) (by rw[aF];exact l8) (λu hu=>Kl _ u hu) x FB no nn nc none 0 0 fo v fc ⟨e1,⟨none,0,rfl,by simp,.inl rfl⟩,(hF.ah (Bw.trans (f.mono Bw.size)))⟩;rw[aj,<-i4]at this;refine this.mono λe w' h=> ?_;obtain⟨hb,sort,ty,size,quiet,vk,vn,vs,place,head,fp,xo,xn,xc,n,rfl,HX⟩:=h.form;exact⟨⟨hb,f.trans (hb.mono f.size)⟩,_,_,_,_,_,_,_,_,_,_,_,n,⟨rfl,rfl,rfl,rfl,rfl,rfl,rfl,rfl,rfl,rfl,rfl⟩,rfl,sort,ty,size,quiet,vk,vn,vs,place,head,fp,xo,xn,xc,rfl,HX.out⟩
    have m9:Hid _:=i3;have n2:Hid _:=i4;clear i3 i4;go_upto_region 5 with fail
    go_cut [7,8] (λs7 s8 R=>∃(k8:Nat) (c:List Value) (n:Int),s7=.int .i64 n/\s8=.pointer (some ⟨k8,0,none⟩)/\Below wo.heap.size wo R/\wo.heap.size<=k8/\R.heap[k8]? =some (.cells c.toArray 210 (0,0))/\Hid (∃sort ty size quiet vk vn vs place head fp xo xn xc,c= [.int .i64 sort,.int .i64 ty,.int .i64 size,.bool quiet,.int .i64 vk,.int .i64 vn,.string (aa vs),.int .i64 place,.string (aa head),.pointer fp,.slice xo xn xc]/\((rd=.error n/\n≠0)\/(∃y,rd=.ok y/\n=0/\dG R FB (λg=>wo.heap.size<=g) c y))))
    case first=>
     have h5:∀x:World,Below wo.heap.size wo x->x.cell? ⟨w.heap.size,1,none⟩=some (.slice co cn cc)/\x.cell? ⟨w.heap.size,4,none⟩=some (.string (aa t.aG))/\x.cell? ⟨k,0,none⟩=some (.slice fo v fc):=λx f=>⟨(f.cell (p:=⟨w.heap.size,1,none⟩) e7).trans c1,(f.cell (p:=⟨w.heap.size,4,none⟩) e7).trans c4,(f.cell (p:=⟨k,0,none⟩) k6).trans e0⟩;clear L X j b0 b1 d0 b6 Z hF hf T h6 h8 g6
     go_region_held2 (λx=>x.cell? ⟨w.heap.size,1,none⟩=some (.slice co cn cc)/\x.cell? ⟨w.heap.size,4,none⟩=some (.string (aa t.aG))/\x.cell? ⟨k,0,none⟩=some (.slice fo v fc)) (go_keep) (first
      |(go_at_call 189;refine(j1 _ ?_).mono ?_;(first|exact(refl _ wo).drew|exact(ae wo _).drew);rintro e w2 ⟨no,nn,nc,rfl,e1,hb2,hB2'⟩;obtain⟨y0,y1,y2⟩:=h5 w2 hB2')
      |(go_at_call 187;refine(j4 _ _ _ _ ?_ ?_).mono ?_;(first|exact e1|exact e1.ah (ae _ _));(first|exact hB2'|exact hB2'.alloc hB2'.size _);rintro e w3 ⟨⟨k5,hB3⟩,a0,a1,a2,a3,a4,a5,N,O,Q,a9,i,n,⟨o0,o1,o2,o3,o4,o5,o6,o7,o8,o9,e3⟩,rfl,HX⟩;
        (first
         |(have m1:=SN hb2 k5;have m0:=m1.1;obtain⟨x1,x2,x3,x4,x5,x6,x7,x8,x9,m6,q,r0,r1,r2,r3,r4,r5,r6,r7,r8,r9,m5,b3,C,z⟩:=qR (P:=prog) m0 a0 a1 a2 a3 a4 a5 N O Q a9 i o0 o1 o2 o3 o4 o5 o6 o7 o8 o9 e3;have b8:Below wo.heap.size wo q:=z _ _ (Nat.le_refl _) hB3;have HM:Hid (∀g,w2.heap.size<=g->g<w3.heap.size->q.heap[g]? =w3.heap[g]?):=(λg J _=>C g (λe=>by have:=m1.2;omega));have S:Hid (wo.heap.size<=wo.heap.size/\wo.heap.size<=w2.heap.size):=⟨Nat.le_refl _,hB2'.size⟩)
         |(have m0:=SQ k5;obtain⟨x1,x2,x3,x4,x5,x6,x7,x8,x9,m6,q,r0,r1,r2,r3,r4,r5,r6,r7,r8,r9,m5,b3,C,z⟩:=qR (P:=prog) m0 a0 a1 a2 a3 a4 a5 N O Q a9 i o0 o1 o2 o3 o4 o5 o6 o7 o8 o9 e3;have b8:Below wo.heap.size wo q:=z _ _ hB2'.size hB3;have HM:Hid (∀g,w2.heap.size+1<=g->g<w3.heap.size->q.heap[g]? =w3.heap[g]?):=(λg J _=>C g (λe=>by omega));have S:Hid (wo.heap.size<=w2.heap.size/\wo.heap.size<=w2.heap.size+1):=⟨hB2'.size,Nat.le_succ_of_le hB2'.size⟩)
         |(have m0:=heap_alloc_new w3 EJ;obtain⟨x1,x2,x3,x4,x5,x6,x7,x8,x9,m6,q,r0,r1,r2,r3,r4,r5,r6,r7,r8,r9,m5,b3,C,z⟩:=qR (P:=prog) m0 a0 a1 a2 a3 a4 a5 N O Q a9 i o0 o1 o2 o3 o4 o5 o6 o7 o8 o9 e3;have b8:Below wo.heap.size wo q:=z _ _ hB3.size (hB3.alloc hB3.size _);have HM:Hid (∀g,w2.heap.size<=g->g<w3.heap.size->q.heap[g]? =w3.heap[g]?):=(λg _ h2=>(C g (λe=>by omega)).trans (heap_alloc _ _ _ h2));have S:Hid (wo.heap.size<=w3.heap.size/\wo.heap.size<=w2.heap.size):=⟨hB3.size,hB2'.size⟩));
        obtain⟨t0,t1,t2⟩:=h5 w3 hB3;obtain⟨v0,v1,v2⟩:=h5 q b8))
     all_goals(go_wp2_with fail;go_meet)
     all_goals
      refine⟨_,[a0,a1,a2,a3,a4,a5,N,O,Q,a9,i],n,rfl,rfl,b8,S.out.1,b3, ?_⟩;obtain⟨sort,ty,size,quiet,vk,vn,vs,place,head,fp,xo,xn,xc,hc,h⟩:=HX.out;refine⟨sort,ty,size,quiet,vk,vn,vs,place,head,fp,xo,xn,xc,hc, ?_⟩;rcases h with h|⟨y,J,h2,h3⟩
      ·exact .inl h
      ·exact .inr ⟨y,J,h2,Oi h3 (by first|exact HM.out|(intro g hg;exact HM.out g (by simpa[size_alloc]using hg))) (by first|exact S.out.2|simpa[size_alloc]using S.out.2)⟩
    case rest=>
     obtain⟨k8,c,n,rfl,rfl,n8,u9,A,HX⟩:=hcut;obtain⟨sort,ty,size,quiet,vk,vn,vs,place,head,fp,xo,xn,xc,rfl,j5⟩:=HX.out;have h9:Hid _:=j5;clear j5 HX j1 j4;generalize p4:wc=w5 at*;clear p4;have B5:Below W.heap.size W w5:=B2.trans (n8.mono B2.size);have u5:Below w.heap.size w w5:=d.trans (B5.mono d.size);obtain⟨⟨y0,y1,y2,y3,y4,y5,y6,y7,y8,y9,i9⟩,_⟩:=aX A;have l0:=af A;obtain⟨pb,D⟩:∃b,b=(!(ty==3)|| !quiet):=⟨_,rfl⟩;go_upto_region 6 with fail
     go_cut [7] (λs7 R=>s7=.int .i64 (aM [n,gG pb 5])/\Below w5.heap.size w5 R)
     case first=>
      have g5:∀m:Int,Calls prog 66 #[.slice (some ⟨w5.heap.size,0,none⟩) 2 2] (w5.alloc (.cells #[.int .i64 n,.int .i64 m] 68)) λe w'=>e=.returned (.int .i64 (aM [n,m]))/\w'=w5.alloc (.cells #[.int .i64 n,.int .i64 m] 68):=λm=>iG w5 n m;clear A c1 c4 e0 L X j b0 b1 d0 b6;by_cases c6:ty=3
      ·subst c6
       cases quiet with
       |true=>
        obtain rfl:pb=false:=by rw[D];rfl
        clear D
        go_wp2_with(first
         |(go_at_call 123;refine(gu _ _ _).mono ?_;rintro e w4 ⟨rfl,rfl⟩)
         |(go_at_call 66;refine(g5 _).mono ?_;rintro e I ⟨rfl,rfl⟩))
        go_meet;exact⟨rfl,ae _ _⟩
       |false=>
        obtain rfl:pb=true:=by rw[D];rfl
        clear D
        go_wp2_with(first
         |(go_at_call 123;refine(gu _ _ _).mono ?_;rintro e w4 ⟨rfl,rfl⟩)
         |(go_at_call 66;refine(g5 _).mono ?_;rintro e I ⟨rfl,rfl⟩))
        go_meet;exact⟨rfl,ae _ _⟩
      ·have e6:(ty==3)=false:=by simpa using c6
       obtain rfl:pb=true:=by rw[D,e6];rfl
       have u3:(ty != 3)=true:=by simpa using c6
       clear D c6 e6
       go_wp2_with(first
        |(go_at_call 123;refine(gu _ _ _).mono ?_;rintro e w4 ⟨rfl,rfl⟩)
        |(go_at_call 66;refine(g5 _).mono ?_;rintro e I ⟨rfl,rfl⟩))
       go_meet;exact⟨rfl,ae _ _⟩
     case rest=>
      obtain⟨rfl,c7⟩:=hcut;have j3:Hid _:=D;clear D y0 y1 y2 y3 y4 y5 y6 y7 y8 y9 i9;generalize p5:wc=I at*;clear p5;have B6:Below W.heap.size W I:=B5.trans (c7.mono B5.size);have b9:Below w.heap.size w I:=d.trans (B6.mono d.size);have i1:aM [gG (!aS t.name||(qi s t.name==0)) 2,gG (!cu t) 6]=0:=by
       rw[<-h6.out,<-h8.out,<-g6.out];exact T.out.symm
      have U:dI fns s t=Dc rd:=by
       rw[dI,i1,if_neg (by decide),n2.out,m9.out]
      obtain⟨n1,M⟩:∃n1,n1=aM [n,gG pb 5]:=⟨_,rfl⟩;rw[<-M];by_cases J:n1=0
      ·have hz:n=0/\pb=false:=Ls (M.symm.trans J);obtain⟨rfl,rfl⟩:=hz;obtain⟨y,hy,b5⟩:∃y,rd=.ok y/\dG w5 FB (λg=>wo.heap.size<=g) [.int .i64 sort,.int .i64 ty,.int .i64 size,.bool quiet,.int .i64 vk,.int .i64 vn,.string (aa vs),.int .i64 place,.string (aa head),.pointer fp,.slice xo xn xc] y:=by
        rcases h9.out with⟨_,h⟩|⟨y,J,_,h2⟩
        ·exact absurd rfl h
        ·exact⟨y,J,h2⟩
       have i8:y.ty=ty/\y.quiet=quiet:=JU b5;have HO:Hid (dI fns s t=.ok y):=by
        rw[Hid,U,hy,Dc,i8.1,i8.2,<-j3.out];rfl
       have m2:dG I FB (λg=>wo.heap.size<=g) [.int .i64 sort,.int .i64 ty,.int .i64 size,.bool quiet,.int .i64 vk,.int .i64 vn,.string (aa vs),.int .i64 place,.string (aa head),.pointer fp,.slice xo xn xc] y:=b5.ah c7;have m4:=(B6.block w.heap.size e2).trans j;obtain⟨⟨c0,c1,c2,c3,c4,c5⟩,_⟩:=TJ m4;have m3:=(c7.block k8 l0).trans A;obtain⟨⟨y0,y1,y2,y3,y4,y5,y6,y7,y8,y9,i9⟩,_⟩:=aX m3;have e5:=(B6.block k Y).trans L;obtain⟨f0,u6,f1,u7⟩:=jq e5;have i6:w.ownsRow (k+1) 235 17 (.slice l tn tc) s.length (eF H):=h7.out;have b7:I.ownsRow (k+1) 235 17 (.slice l tn tc) s.length (eF H):=aA i6 λg hg=>b9.block g (i6.lt g hg).2;have j2:∀o:Obj,(I.alloc o).drew.ownsRow (k+1) 235 17 (.slice l tn tc) s.length (eF H):=λo=>World.ownsRow.drew (World.ownsRow.alloc b7 o);have p3:(slice l tn tc).ownBlock≠some k:=λe=>by have:=(b7.lt _ e).1;omega
       have k9:k<I.heap.size:=by have:=b9.size;omega
       have u4:w.heap.size<I.heap.size:=by have:=B6.size;omega
       have p0:k8<I.heap.size:=by have:=c7.size;omega
       have n4:Hid _:=m2;have j0:Hid _:=e5;obtain⟨i0,hi,p8,p9,q0⟩:=info_parts QV;subst J;clear i6 M U i1 b5 m2 hy i8 A m3 m4 L X j b0 b1 d0 Z hF hf h9 l8 b6;obtain⟨d0,E0⟩:∃a,Hid (a=string (aa t.name)):=⟨_,rfl⟩;rw[<-E0.out]at c0;have o0:d0.oneCell'=true:=by rw[E0.out];rfl
       obtain⟨d1,E1⟩:∃a,Hid (a=slice co cn cc):=⟨_,rfl⟩;rw[<-E1.out]at c1;have o1:d1.oneCell'=true:=by rw[E1.out];rfl
       obtain⟨d2,E2⟩:∃a,Hid (a=slice ro rn rc):=⟨_,rfl⟩;rw[<-E2.out]at c2;have o2:d2.oneCell'=true:=by rw[E2.out];rfl
       obtain⟨d3,E3⟩:∃a,Hid (a=int .i64 t.count):=⟨_,rfl⟩;rw[<-E3.out]at c3;have o3:d3.oneCell'=true:=by rw[E3.out];rfl
       obtain⟨d4,E4⟩:∃a,Hid (a=string (aa t.aG)):=⟨_,rfl⟩;rw[<-E4.out]at c4;have o4:d4.oneCell'=true:=by rw[E4.out];rfl
       obtain⟨d5,E5⟩:∃a,Hid (a=slice uo un uc):=⟨_,rfl⟩;rw[<-E5.out]at c5;have o5:d5.oneCell'=true:=by rw[E5.out];rfl
       obtain⟨d6,E6⟩:∃a,Hid (a=int .i64 sort):=⟨_,rfl⟩;rw[<-E6.out]at y0;have o6:d6.oneCell'=true:=by rw[E6.out];rfl
       obtain⟨d7,E7⟩:∃a,Hid (a=int .i64 ty):=⟨_,rfl⟩;rw[<-E7.out]at y1;have o7:d7.oneCell'=true:=by rw[E7.out];rfl
       obtain⟨d8,E8⟩:∃a,Hid (a=int .i64 size):=⟨_,rfl⟩;rw[<-E8.out]at y2;have o8:d8.oneCell'=true:=by rw[E8.out];rfl
       obtain⟨d9,E9⟩:∃a,Hid (a=Value.bool quiet):=⟨_,rfl⟩;rw[<-E9.out]at y3;have o9:d9.oneCell'=true:=by rw[E9.out];rfl
       obtain⟨d10,e8⟩:∃a,Hid (a=int .i64 vk):=⟨_,rfl⟩;rw[<-e8.out]at y4;have e3:d10.oneCell'=true:=by rw[e8.out];rfl
       obtain⟨d11,e9⟩:∃a,Hid (a=int .i64 vn):=⟨_,rfl⟩;rw[<-e9.out]at y5;have v4:d11.oneCell'=true:=by rw[e9.out];rfl
       obtain⟨d12,g0⟩:∃a,Hid (a=string (aa vs)):=⟨_,rfl⟩;rw[<-g0.out]at y6;have v6:d12.oneCell'=true:=by rw[g0.out];rfl
       obtain⟨d13,g1⟩:∃a,Hid (a=int .i64 place):=⟨_,rfl⟩;rw[<-g1.out]at y7;have v7:d13.oneCell'=true:=by rw[g1.out];rfl
       obtain⟨d14,g2⟩:∃a,Hid (a=string (aa head)):=⟨_,rfl⟩;rw[<-g2.out]at y8;have v8:d14.oneCell'=true:=by rw[g2.out];rfl
       obtain⟨d15,g3⟩:∃a,Hid (a=Value.pointer fp):=⟨_,rfl⟩;rw[<-g3.out]at y9;have w1:d15.oneCell'=true:=by rw[g3.out];rfl
       obtain⟨d16,g4⟩:∃a,Hid (a=slice xo xn xc):=⟨_,rfl⟩;rw[<-g4.out]at i9;have w8:d16.oneCell'=true:=by rw[g4.out];rfl
       go_upto_region 9 with fail
       go_region_law (refine step_append_lies _ rfl (.tmp 69) (.tmp 73) 192 rfl (k+1) 235 i0 _ 17 232 Tryz.underlying192 hi p8 p9 q0 rfl (by decide) (.slice l tn tc) s.length (eF H) (by simp[Act.eval]) (j2 _) ⟨I.heap.size,0,none⟩ 1 1 [d0,d1,d2,d3,d4,d5,d6,d7,d8,d9,d10,d11,d12,d13,d14,d15,d16] (by simp[Act.eval]) rfl (World.news_of_block (bI I _)) (by intro u hu;simp only[List.mem_cons,List.not_mem_nil,or_false]at hu;rcases hu with rfl|rfl|rfl|rfl|rfl|rfl|rfl|rfl|rfl|rfl|rfl|rfl|rfl|rfl|rfl|rfl|rfl<;>assumption) (by decide) (by unfold maxLen;omega) (by omega) (by simp;omega) (I.heap.size+1) (by simp) ?_;intro g7 s9 w7 b4 G u0 u1;have kB:w7.heap[k]? =_:=(G.block k (by simp;omega) p3.symm).trans ((heap_alloc _ _ _ k9).trans j0.out);have u8:=af kB;obtain⟨r0,t0,r1,t1⟩:=jq kB)
       all_goals(go_wp2_with fail;go_ret)
       all_goals
        have k4: [d0,d1,d2,d3,d4,d5,d6,d7,d8,d9,d10,d11,d12,d13,d14,d15,d16]=(fG.arr ⟨t.name,co,cn,cc,ro,rn,rc,t.count,t.aG,uo,un,uc,sort,ty,size,quiet,vk,vn,vs,place,head,fp,xo,xn,xc⟩).toList:=by
         rw[E0.out,E1.out,E2.out,E3.out,E4.out,E5.out,E6.out,E7.out,E8.out,E9.out,e8.out,e9.out,g0.out,g1.out,g2.out,g3.out,g4.out]
        rw[k4]at b4;obtain⟨A1,A2⟩:=RX (r:=⟨t.name,co,cn,cc,ro,rn,rc,t.count,t.aG,uo,un,uc,sort,ty,size,quiet,vk,vn,vs,place,head,fp,xo,xn,xc⟩) n5 c8 k7 b9 j0.out m8.out b7 l9 h3 l7 n3.out ⟨rfl,rfl,rfl,k2,k3,n9⟩ n4.out b4 G kB;exact .inr ⟨y,HO.out,rfl,A1,A2⟩
      ·have HE:Hid (dI fns s t=.error n1):=by
        rcases h9.out with⟨he,l4⟩|⟨y,hy,rfl,b5⟩
        ·have:n1=n:=by rw[M];exact Ou l4
         rw[Hid,U,he,this];rfl
        ·obtain⟨q1,q2⟩:y.ty=ty/\y.quiet=quiet:=JU b5;have hp:pb=true/\n1=5:=IA M J;rw[Hid,U,hy,Dc,q1,q2,<-j3.out,hp.1,hp.2];rfl
       have u2:(n1==0)=false:=by simpa using J
       clear M U i1
       go_wp2_with fail
       go_ret;exact .inl ⟨n1,HE.out,J,rfl,b9⟩
   ·have v3:(n0==0)=false:=by simpa using h0
    have l5:=True.intro;have m7:Below w.heap.size w wc:=d.trans (B2.mono d.size);have HE:Hid (dI fns s t=.error n0):=by
     have e:aM [gG (!aS t.name||(qi s t.name==0)) 2,gG (!cu t) 6]=n0:=by
      rw[T.out,h6.out,h8.out,g6.out]
     rw[Hid,dI,e,if_pos h0]
    clear l5
    go_wp2_with fail
    go_ret;exact .inl ⟨n0,HE.out,h0,rfl,m7⟩
def AL(w:World)(b o:Nat)(t:aT):Prop:=∃(co:Option Addr) (cn cc:Nat) (ro:Option Addr) (rn rc:Nat) (uo:Option Addr) (un uc:Nat),
 (w.cell? ⟨b,o,none⟩=some (.string (aa t.name))/\w.cell? ⟨b,o+1,none⟩=some (.slice co cn cc)/\w.cell? ⟨b,o+2,none⟩=some (.slice ro rn rc)/\w.cell? ⟨b,o+3,none⟩=some (.int .i64 t.count)/\w.cell? ⟨b,o+4,none⟩=some (.string (aa t.aG))/\w.cell? ⟨b,o+5,none⟩=some (.slice uo un uc))/\
 dX w (.slice co cn cc) t.ay/\RowsIn w (.slice ro rn rc) t.rows/\iX w (.slice uo un uc) t.lX/\t.name.length<=maxLen/\t.aG.length<=maxLen
def jm(w:World)(v:Value)(ts:List aT):Prop:=∃ao cap,v=.slice ao ts.length cap/\ts.length<=maxLen/\(ts= []\/∃b off,ao=some ⟨b,off,none⟩/\b<w.heap.size/\∀(i:Nat) (t:aT),ts[i]? =some t->AL w b (off+i*6) t)
theorem AL.ah{w x:World}{b o:Nat}{t:aT}(h:AL w b o t)(m:b<w.heap.size)(hb:Below w.heap.size w x):AL x b o t:=by
 obtain⟨co,cn,cc,ro,rn,rc,uo,un,uc,⟨c,d,e,f,g,i⟩,j,k,l,h⟩:=h;have a:∀o,x.cell? ⟨b,o,none⟩=w.cell? ⟨b,o,none⟩:=λo=>hb.cell (p:=⟨b,o,none⟩) m;exact⟨co,cn,cc,ro,rn,rc,uo,un,uc,⟨(a _).trans c,(a _).trans d,(a _).trans e,(a _).trans f,(a _).trans g,(a _).trans i⟩,j.ah hb,k.ah hb,l.ah hb,h⟩
theorem jm.ah{w x:World}{v:Value}{a:List aT}(h:jm w v a)(hb:Below w.heap.size w x):jm x v a:=by
 obtain⟨c,cap,d,f,g⟩:=h;refine⟨c,cap,d,f, ?_⟩;rcases g with h|⟨b,off,e,hl,hc⟩
 ·exact .inl h
 ·exact .inr ⟨b,off,e,by have:=hb.size;omega,λi t j=>(hc i t j).ah hl hb⟩
def jy(fns:List Fn):List (aT × Ex)->List aT->Except Int (List (aT × Ex))
 |acc,[]=>.ok acc
 |acc,t::r=>match dI fns acc t with
  | .error n=>.error n
  | .ok x=>jy fns (acc++ [(t,x)]) r
def JB(fns:List Fn)(o:Except Int (List (aT × Ex))):Except Int (List Fn × List (aT × Ex)):=match o with
 | .error n=>.error n
 | .ok tt=>.ok (fns,tt)
def dS(fs:List nk)(ts:List aT):Except Int (List Fn × List (aT × Ex)):=
 if 8<fs.length\/4<ts.length then .error 9 else
 match eY [] fs with
 | .error n=>.error n
 | .ok fns=>JB fns (jy fns [] ts)
theorem BD{a:List nk}{b:List aT}{n:Int}(d:a.length<=8)(c:b.length<=4)(h:eY [] a=.error n):dS a b=.error n:=by
 rw[dS,if_neg (by omega),h]
theorem qd{a:List nk}{b:List aT}{fns:List Fn}(d:a.length<=8)(c:b.length<=4)(h:eY [] a=.ok fns):dS a b=JB fns (jy fns [] b):=by
 rw[dS,if_neg (by omega),h]
def DZ(w:World)(o:Except Int (List Fn × List (aT × Ex)))(e:Ending)(w':World):Prop:=Below w.heap.size w w'/\
 ((∃n:Int,o=.error n/\n≠0/\e=.returned (.tuple #[.agg #[.slice none 0 0,.slice none 0 0],.int .i64 n]))\/
  (∃(fns:List Fn) (tt:List (aT × Ex)) (FB:List Nat) (fo:Option Addr) (fnn fc:Nat) (to':Option Addr) (tn tc:Nat),o=.ok (fns,tt)/\e=.returned (.tuple #[.agg #[.slice fo fnn fc,.slice to' tn tc],.int .i64 0])/\jA w' FB (.slice fo fnn fc) fns/\mI w' FB (.slice to' tn tc) tt/\∀fn∈fns,0<=fn.body.size/\fn.body.size<=300))
theorem pE.ah{w0 w x:World}{d:Nat}{j:List Nat}{fns:List Fn}{p:List (aT × Ex)}(h:pE w0 w d j fns p)(hb:Below w.heap.size w x):pE w0 x d j fns p:=by
 obtain⟨s,e,q,f,C,B,c,t,k,l,u,m,v,y,z,n⟩:=h;exact⟨s,e,q,f,C,B,c,t,k.trans (hb.mono k.size),(hb.block d (af l)).trans l,u.ah hb,aA m λg A=>hb.block g (m.lt g A).2,v,y,z,λi r o a b=>⟨(n i r o a b).1,(n i r o a b).2.ah hb⟩⟩
theorem Ia{w wr:World}{b:Nat}{d:List Nat}{fns:List Fn}(h:qB wr b d fns)(hb:w.heap.size<=b)(n:Below w.heap.size w wr):pE w wr b d fns []:=by
 obtain⟨f,c,e,g,j,k,l,m⟩:=h;exact⟨f,c,e,none,0,0,[],hb,n,g,Bg j k l m,World.ownsRow_nil _ _ _ _,rfl,by simp,λ_=>rfl,λi r o a=>by simp at a⟩
theorem NF{w0 w:World}{k f:Nat}{q:List Nat}{fns:List Fn}{y:List (aT × Ex)}(h:pE w0 w k q fns y)(x:w.heap[f]? =some (.cells #[.slice none 0 0,.slice none 0 0] 194 (0,0)))(H:f<k)(u:w0.heap.size<=f):
  ∃(m:Option Addr) (c l:Nat) (d:Option Addr) (o n:Nat),w.heap[k]? =some (.cells #[.slice m c l,.slice d o n] 194 (0,0))/\
   jA ((w.setCell ⟨f,0,none⟩ (.slice m c l)).setCell ⟨f,1,none⟩ (.slice d o n)) q (.slice m c l) fns/\mI ((w.setCell ⟨f,0,none⟩ (.slice m c l)).setCell ⟨f,1,none⟩ (.slice d o n)) q (.slice d o n) y:=by
 obtain⟨m,c,l,d,o,n,j,G,s,A,B,C,D,E,M,F⟩:=h;refine⟨m,c,l,d,o,n,A,B.other x (by simp[World.setCell]) (λg t=>tK _ _ _ _ _ t), ?_⟩;refine Kt (w0:=w0) (bb:=k) (raws:=j) ((s.setCell (p:=⟨f,0,none⟩) u _).setCell (p:=⟨f,1,none⟩) u _) ?_ D E λi r K a b=> ?_
 ·exact ownsRow_setCell_below (ownsRow_setCell_below C (by show f<k+1;omega) _) (by show f<k+1;omega) _
 ·obtain⟨I,J⟩:=F i r K a b;refine⟨I,J.typed.move (λg t=> ?_) (λ_ _=>trivial)⟩;obtain⟨_,z,L,v⟩:=t;refine tK _ _ _ _ _ λe=> ?_;subst e;rw[x]at v;cases v
theorem xG(w:World)(d:List nk)(h8:d.length<=8)(v:Value)(hv:fH w v d)(k:List aT)(h4:k.length<=4)(r:Option Addr)(tl T:Nat)(c7:jm w (.slice r tl T) k):
  Calls prog 62 #[.agg #[v,.slice r tl T]] w λe w'=>DZ w (dS d k) e w':=by
 obtain⟨ao,cap,rfl,g2,hz⟩:=hv;obtain⟨g3,GJ,b7,e4,a9⟩:=c7
 cases b7;have D:Hid _:=a9;clear a9;have e9:decide ((8:Int)<(d.length:Int))=false:=by simp;omega
 have e8:decide ((4:Int)<(k.length:Int))=false:=by simp;omega
 go_enter Tryz.func62,Tryz.ntmps62
 go_wp2_with fail
 go_loopw [25] (λR wr=>∃(i:Nat) (J:List Nat) (a:List Fn),i<=d.length/\R=.int .i64 i/\a.length=i/\qB wr (w.heap.size+2) J a/\(∀fn∈a,0<=fn.body.size/\fn.body.size<=300)/\Hid (eY [] d=eY a (d.drop i))/\
   Below (w.heap.size+2) (((w.alloc (.cells #[.slice ao d.length cap,.slice r k.length T] 67)).alloc (.cells #[.slice none 0 0,.slice none 0 0] 194)).alloc (.cells #[.slice none 0 0,.slice none 0 0] 194)) wr) (λR _=>d.length- (intOf R).toNat)
 case atStart=>exact⟨0,[],[],Nat.zero_le _,rfl,rfl,⟨none,0,0,(fO (refl _ _)).2.2.1,World.ownsRow_nil _ _ _ _,rfl,by simp,λi q fn h=>by simp at h⟩,λfn h=>by simp at h,rfl,refl _ _⟩
 case round=>
  obtain⟨i,J,a,hi,rfl,b6,A,C,E,I⟩:=hrel;have e3:w.heap.size+2<wr.heap.size:=by obtain⟨_,_,_,h1,_⟩:=A;exact af h1
  have B:=jo w (.cells #[.slice ao d.length cap,.slice r k.length T] 67) (.cells #[.slice none 0 0,.slice none 0 0] 194) (.cells #[.slice none 0 0,.slice none 0 0] 194);have hR:wr.heap[w.heap.size+1]? =some (.cells #[.slice none 0 0,.slice none 0 0] 194 (0,0)):=(I.block _ (by omega)).trans (fO (refl _ _)).2.1;have N:wr.heap[w.heap.size]? =some (.cells #[.slice ao d.length cap,.slice r k.length T] 67 (0,0)):=(I.block _ (by omega)).trans (fO (refl _ _)).1;by_cases s:i<d.length
  ·obtain⟨b,l,rfl,hb,hc⟩:∃b l,ao=some ⟨b,l,none⟩/\b<w.heap.size/\∀(i:Nat) (f:nk),d[i]? =some f->(w.cell? ⟨b,l+i*3,none⟩=some (.string (aa f.1))/\w.cell? ⟨b,l+i*3+1,none⟩=some (.string (aa f.2.1))/\w.cell? ⟨b,l+i*3+2,none⟩=some (.string (aa f.2.2)))/\f.1.length<=maxLen/\f.2.2.length<=maxLen:=by
    rcases hz with h|h
    ·subst h;simp at s
    ·exact h
   obtain⟨⟨X,Y,Z⟩,P,Q⟩:=hc i d[i] (List.getElem?_eq_getElem s);have y:∀j,wr.cell? ⟨b,j,none⟩=w.cell? ⟨b,j,none⟩:=λj=>(I.cell (p:=⟨b,j,none⟩) (by show b<w.heap.size+2;omega)).trans (B.cell (p:=⟨b,j,none⟩) hb);have S:=(y _).trans X;have U:=(y _).trans Y;have V:=(y _).trans Z;have hd:d.drop i=(d[i].1,d[i].2.1,d[i].2.2)::d.drop (i+1):=List.drop_eq_getElem_cons s;rw[hd]at E;obtain⟨x1,a6⟩:∃x,x=d[i].1:=⟨_,rfl⟩;obtain⟨x2,a7⟩:∃x,x=d[i].2.1:=⟨_,rfl⟩;obtain⟨x3,a8⟩:∃x,x=d[i].2.2:=⟨_,rfl⟩;rw[<-a6]at S E P;rw[<-a7]at U E;rw[<-a8]at V E Q;have e7:b<wr.heap.size:=by omega
   have K:=Ed _ (w.heap.size+2) J a (A.ah (ae wr (.cells #[.string (aa x1),.string (aa x2),.string (aa x3)] 48))) (by omega) C x1 x2 x3 P Q;clear y X Y Z hc hz hd a6 a7 a8 P Q A
   go_wp2_with(go_at_call 110;refine K.mono ?_)
   rintro e F (⟨n,ho,hn,rfl,hb5⟩|⟨fn,q,ho,rfl,g,hb5⟩)
   ·have HE:Hid (eY [] d=.error n):=by rw[Hid,E.out];exact Ee ho _
    have g:Below wr.heap.size wr F:=(ae wr _).trans (hb5.mono (by simp[size_alloc]));have c6:=g.size;have BX:Below w.heap.size w F:=(B.trans (I.mono (by omega))).trans (g.mono (by omega));obtain⟨z0,g0,z1,g1⟩:=jq ((g.block _ (by omega)).trans hR);have b5:w.heap.size+1<F.heap.size:=by omega
    have b9:(n==0)=false:=by simpa using hn
    clear K E I hR N hb5 g B S U V
    go_wp2_with fail
    exact bodyPost_ret (v:=.tuple #[.agg #[.slice none 0 0,.slice none 0 0],.int .i64 n]) (by simp[results,Tryz.results62,go_sem,z0,z1]) rfl ⟨(BX.setCell (by simp) _).setCell (by simp) _,.inl ⟨n,by rw[BD h8 h4 HE.out],hn,rfl⟩⟩
   ·have HN:Hid (eY [] d=eY (a++ [fn]) (d.drop (i+1))):=by rw[Hid,E.out];exact JH ho _
    have a5:∀f∈a++ [fn],0<=f.body.size/\f.body.size<=300:=by
     intro f hf;rcases List.mem_append.mp hf with h|h
     ·exact C f h
     ·rw[List.mem_singleton.mp h];exact AP C ho
    have RB:Below (w.heap.size+2) (((w.alloc (.cells #[.slice (some ⟨b,l,none⟩) d.length cap,.slice r k.length T] 67)).alloc (.cells #[.slice none 0 0,.slice none 0 0] 194)).alloc (.cells #[.slice none 0 0,.slice none 0 0] 194)) F:=I.trans (((ae wr _).mono (by omega)).trans hb5);clear K E I hR N hb5 B S U V ho
    go_wp2
    go_roundw
    case rel=>exact⟨i+1,J++ [q],a++ [fn],by omega,by go_num,by simp[b6],g,a5,HN,RB⟩
    case measure=>simp[intOf];omega
  ·have HE:Hid (eY [] d=.ok a):=by rw[Hid,E.out,List.drop_of_length_le (by omega)];rfl
   have BX:Below w.heap.size w wr:=B.trans (I.mono (by omega));have a1:=Ia A (by omega) BX;have b1:wr.cell? ⟨w.heap.size,1,none⟩=some (.slice r k.length T):=(ag N).trans rfl;generalize c8:wr=wa at*;clear c8 E A hz
   go_wp2_with fail
   go_loopw [39] (λR wx=>∃(j:Nat) (c:List (aT × Ex)),j<=k.length/\R=.int .i64 j/\c.length=j/\pE w wx (w.heap.size+2) J a c/\Hid (jy a [] k=jy a c (k.drop j))/\Below (w.heap.size+2) wa wx) (λR _=>k.length- (intOf R).toNat)
   case atStart=>exact⟨0,[],Nat.zero_le _,rfl,rfl,a1,rfl,refl _ _⟩
   case round=>
    obtain⟨j,c,hj,rfl,b8,m,H,M⟩:=hrel;generalize c9:wr=wj at*;clear c9 a1;have e2:w.heap.size+2<wj.heap.size:=by obtain⟨_,_,_,_,_,_,_,_,_,h1,_⟩:=m;exact af h1
    have u:wj.heap[w.heap.size+1]? =some (.cells #[.slice none 0 0,.slice none 0 0] 194 (0,0)):=(M.block _ (by omega)).trans hR;have z:Below w.heap.size w wj:=BX.trans (M.mono (by omega));by_cases s:j<k.length
    ·obtain⟨b,l,rfl,hb,hc⟩:∃b l,r=some ⟨b,l,none⟩/\b<w.heap.size/\∀(i:Nat) (t:aT),k[i]? =some t->AL w b (l+i*6) t:=by
      rcases D.out with h|h
      ·subst h;simp at s
      ·exact h
     obtain⟨co,cn,cc,ro,rn,rc,uo,un,uc,⟨X,Y,Z,c3,c4,c5⟩,hC,O,hU,a3,a4⟩:=hc j k[j] (List.getElem?_eq_getElem s);have y:∀o,wj.cell? ⟨b,o,none⟩=w.cell? ⟨b,o,none⟩:=λo=>z.cell (p:=⟨b,o,none⟩) hb;have S:=(y _).trans X;have U:=(y _).trans Y;have V:=(y _).trans Z;have q3:=(y _).trans c3;have q4:=(y _).trans c4;have q5:=(y _).trans c5;have e6:b<wj.heap.size:=by have:=z.size;omega
     have hd:k.drop j=k[j]::k.drop (j+1):=List.drop_eq_getElem_cons s;rw[hd]at H;obtain⟨t,ht⟩:∃t,t=k[j]:=⟨_,rfl⟩;rw[<-ht]at S q3 q4 H hC O hU a3 a4;have K:=Cb w _ (w.heap.size+2) J a c (m.ah (ae wj (.cells #[.string (aa t.name),.slice co cn cc,.slice ro rn rc,.int .i64 t.count,.string (aa t.aG),.slice uo un uc] 54))) (by omega) C t co cn cc ro rn rc uo un uc hC O hU a3 a4;clear y X Y Z c3 c4 c5 hc hd ht hC O hU m D
     go_wp2_with(go_at_call 111;refine K.mono ?_)
     rintro e F (⟨n,ho,hn,rfl,hb5⟩|⟨x,ho,rfl,g,hb5⟩)
     ·have L:Hid (dS d k=.error n):=by rw[Hid,qd h8 h4 HE.out,H.out,jy,ho];rfl
      have g:Below wj.heap.size wj F:=(ae wj _).trans (hb5.mono (by simp[size_alloc]));have c6:=g.size;have b3:Below w.heap.size w F:=z.trans (g.mono z.size);obtain⟨z0,g0,z1,g1⟩:=jq ((g.block _ (by omega)).trans u);have b5:w.heap.size+1<F.heap.size:=by omega
      have b9:(n==0)=false:=by simpa using hn
      clear K H u hb5 g S U V q3 q4 q5
      go_wp2_with fail
      exact bodyPost_ret (v:=.tuple #[.agg #[.slice none 0 0,.slice none 0 0],.int .i64 n]) (by simp[results,Tryz.results62,go_sem,z0,z1]) rfl ⟨(b3.setCell (by simp) _).setCell (by simp) _,.inl ⟨n,L.out,hn,rfl⟩⟩
     ·have HN:Hid (jy a [] k=jy a (c++ [(t,x)]) (k.drop (j+1))):=by rw[Hid,H.out,jy,ho]
      have RB:Below (w.heap.size+2) wa F:=M.trans (((ae wj _).mono (by omega)).trans hb5);clear K H u hb5 S U V q3 q4 q5 ho
      go_wp2
      go_roundw
      case rel=>exact⟨j+1,c++ [(t,x)],by omega,by go_num,by simp[b8],g,HN,RB⟩
      case measure=>simp[intOf];omega
    ·have L:Hid (dS d k=.ok (a,c)):=by rw[Hid,qd h8 h4 HE.out,H.out,List.drop_of_length_le (by omega)];rfl
     obtain⟨fo,a0,fc,b2,tn,b0,b4⟩:=NF m u (by omega) (by omega);obtain⟨a2,W⟩:=b4;obtain⟨z0,g0,z1,g1⟩:=jq u;obtain⟨e0,_,e1,_⟩:=jq a2;have e5:w.heap.size+2≠w.heap.size+1:=by omega
     have G:Hid _:=W;clear H m u a2 W D
     go_wp2_with fail
     exact bodyPost_ret (v:=.tuple #[.agg #[.slice fo a0 fc,.slice b2 tn b0],.int .i64 0]) (by simp[results,Tryz.results62,go_sem,z0,z1]) rfl ⟨(z.setCell (by simp) _).setCell (by simp) _,.inr ⟨a,c,J,fo,a0,fc,b2,tn,b0,L.out,rfl,G.out.1,G.out.2,C⟩⟩
theorem Ae(w:World)(a:List nk)(v:Value)(l:fH w v a)(g:List aT)(f:Option Addr)(o n:Nat)(c:jm w (.slice f o n) g):
  Calls prog 62 #[.agg #[v,.slice f o n]] w λe w'=>DZ w (dS a g) e w':=by
 by_cases s:a.length<=8
 ·by_cases r:g.length<=4
  ·exact xG w a s v l g r f o n c
  ·obtain⟨q,cap,rfl,k,m⟩:=l;obtain⟨p,GJ,b,h,d⟩:=c
   cases b;have i:Hid (dS a g=.error 9):=by rw[Hid,dS,if_pos (by omega)]
   have j:decide ((8:Int)<(a.length:Int))=false:=by simp;omega
   have t:decide ((4:Int)<(g.length:Int))=true:=by simp;omega
   clear m d;go_enter Tryz.func62,Tryz.ntmps62
   go_wp2_with fail
   refine bodyPost_ret (v:=.tuple #[.agg #[.slice none 0 0,.slice none 0 0],.int .i64 9]) (by simp[results,Tryz.results62,go_sem]) rfl ⟨?_,.inl ⟨9,i.out,by decide,rfl⟩⟩;exact az w _ _
 ·obtain⟨q,cap,rfl,k,m⟩:=l;obtain⟨p,GJ,b,h,d⟩:=c
  cases b;have i:Hid (dS a g=.error 9):=by rw[Hid,dS,if_pos (by omega)]
  have j:decide ((8:Int)<(a.length:Int))=true:=by simp;omega
  clear m d;go_enter Tryz.func62,Tryz.ntmps62
  go_wp2_with fail
  refine bodyPost_ret (v:=.tuple #[.agg #[.slice none 0 0,.slice none 0 0],.int .i64 9]) (by simp[results,Tryz.results62,go_sem]) rfl ⟨?_,.inl ⟨9,i.out,by decide,rfl⟩⟩;exact az w _ _
theorem rV(w:World)(f:List Nat)(fns:List Fn)(j:Option Addr)(b g:Nat)(d:Option Addr)(m l:Nat)(h:jA w f (.slice j b g) fns)(name:Bs):
  Calls prog 65 #[.agg #[.slice j b g,.slice d m l],.string (aa name)] w λe w'=>(∃p,e=.returned (.tuple #[.pointer p,.int .i64 (Ka (aV fns name))])/\yj f (aV fns name) p)/\Below w.heap.size w w':=by
 have a:=yP _ f _ fns name (h.ah (ae w (.cells #[.slice j b g,.slice d m l] 194)));have c:=ae w (.cells #[.slice j b g,.slice d m l] 194)
 cases n:aV fns name with
 |none=>
  rw[n]at a;clear h;go_enter Tryz.func65,Tryz.ntmps65
  go_wp2_with(first
   |(go_at_call 122;refine a.mono ?_;rintro e w2 ⟨⟨p,rfl,hp⟩,hb2⟩;have k:p=none:=hp;subst k)
   |(go_at_call 123;refine(gu _ _ _).mono ?_;rintro e r ⟨rfl,rfl⟩))
  go_ret2;exact⟨⟨none,rfl,rfl⟩,c.trans (hb2.mono c.size)⟩
 |some i=>
  rw[n]at a;clear h;go_enter Tryz.func65,Tryz.ntmps65
  go_wp2_with(first
   |(go_at_call 122;refine a.mono ?_;rintro e w2 ⟨⟨p,rfl,hp⟩,hb2⟩;obtain⟨q,o,rfl⟩:∃q,f[i]? =some q/\p=some ⟨q,0,none⟩:=hp)
   |(go_at_call 123;refine(gu _ _ _).mono ?_;rintro e r ⟨rfl,rfl⟩))
  go_ret2;exact⟨⟨_,rfl,q,o,rfl⟩,c.trans (hb2.mono c.size)⟩
end Go.Proofs.YtdifpeaklamhnaaGreatDoor
