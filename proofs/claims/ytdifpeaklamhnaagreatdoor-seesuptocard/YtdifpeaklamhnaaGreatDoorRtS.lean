import Derived.Test.YtdifpeaklamhnaaGreatDoorRtR
set_option linter.unusedVariables false
set_option linter.unusedSimpArgs false
set_option maxRecDepth 100000
set_option maxHeartbeats 0
namespace Go.Proofs.YtdifpeaklamhnaaGreatDoor
open Go.Proofs.Tryz
open Go.RowKit
open Value (string slice)
theorem zg(w:World)(Y:Nat)(l:List wB)(hB:uY w Y l)(h7:l.length<=7)(I:ug (l.map (·.1)))(name args body:Bs)(hn:name.length<=maxLen)(ha:args.length<=maxLen):
  Calls prog 63 #[.pointer (some ⟨Y,0,none⟩),.agg #[.string (aa name),.string (aa args),.string (aa body)]] w λe w'=>QB w Y l args (jE (bW l) name args body) e w':=by
 obtain⟨M,f,K,a8,F,h8,b7⟩:=hB;have e8:=ai a8;have a0:=tH F h8 b7;obtain⟨W,hW⟩:∃W,W=w.alloc (.cells #[.string (aa name),.string (aa args),.string (aa body)] 48):=⟨_,rfl⟩;have b3:Hid (w.alloc (.cells #[.string (aa name),.string (aa args),.string (aa body)] 48)=W):=hW.symm;have d:Below w.heap.size w W:=by rw[hW];exact ae w _
 have e2:W.heap[w.heap.size]? =some (.cells #[.string (aa name),.string (aa args),.string (aa body)] 48 (0,0)):=by rw[hW];exact heap_alloc_new w _
 have h5:W.heap.size=w.heap.size+1:=by rw[hW];simp[World.size_alloc]
 have a1:=(d.block Y e8).trans a8;have a:∀x:World,Below W.heap.size W x->(x.cell? ⟨w.heap.size,0,none⟩=some (.string (aa name))/\x.cell? ⟨w.heap.size,1,none⟩=some (.string (aa args))/\x.cell? ⟨w.heap.size,2,none⟩=some (.string (aa body)))/\x.cell? ⟨Y,0,none⟩=some (.slice M f K)/\(w.heap.size<x.heap.size/\Y<x.heap.size):=by
  intro x hx;have b0:=(hx.block w.heap.size (by omega)).trans e2;have b1:=(hx.block Y (by omega)).trans a1;have:=hx.size;exact⟨⟨(af b0).trans rfl,(af b0).trans rfl,(af b0).trans rfl⟩,(af b1).trans rfl,by omega,by omega⟩
 have c9:∀x:World,Calls prog 112 #[.string (aa name)] x λe w'=>e=.returned (.bool (aU name))/\w'=x:=by
  intro x;have:=gG (aa name) x (by rw[aF];exact hn);rw[au]at this;exact this
 have c7:∀x:World,Calls prog 113 #[.string (aa name)] x λe w'=>e=.returned (.bool (iX name))/\w'=x:=by
  intro x;have:=dx (aa name) x;rw[au]at this;exact this
 have E:∀x:World,Calls prog 116 #[.string (aa args)] x λe w'=>e=.returned (.bool (args.all dP))/\w'=x:=by
  intro x;have:=uR (aa args) x (by rw[aF];exact ha);rw[au]at this;exact this
 have c6:∀(x:World) (b:Nat),x.heap[b]? =some (.cells (gy.map λt=>string (aa t)).toArray 9 (0,0))->Calls prog 114 #[.slice (some ⟨b,0,none⟩) 8 8,.string (aa name)] x λe w'=>e=.returned (.bool (aW gy name))/\w'=x:=λx b hb=>uk gy 8 rfl (by omega) x b hb name;have e0:=uS;have a4:∀x:World,Below W.heap.size W x->Calls prog 67 #[.agg #[.slice none 0 0,.slice none 0 0,.string ⟨#[]⟩,.slice M f K],.string (aa name)] x λe w'=>e=.returned (.int .i64 (zJ (bB (bW l) name)))/\Below W.heap.size W w':=λx hx=>
  (fI x _ _ _ M f K _ (a0.ag (d.trans (hx.mono d.size))) name).mono λe w' h=>⟨h.1,hx.trans (h.2.mono hx.size)⟩
 have k:=LJ (fns:=bW l) name;obtain⟨wd,e6⟩:∃b,b=aU name:=⟨_,rfl⟩;obtain⟨vl,h9⟩:∃b,b=iX name:=⟨_,rfl⟩;obtain⟨wl,e7⟩:∃b,b=aW gy name:=⟨_,rfl⟩;obtain⟨fi,e3⟩:∃b,b=bB (bW l) name:=⟨_,rfl⟩;obtain⟨ty,e5⟩:∃b,b=args.all dP:=⟨_,rfl⟩;obtain⟨ow,e4⟩:∃o,o=Obj.cells (gy.map λt=>string (aa t)).toArray 9:=⟨_,rfl⟩;rw[<-e6]at c9 k;rw[<-h9]at c7 k;simp only[<-e7,<-e4]at c6;rw[<-e7,<-e3]at k;simp only[<-e3]at a4;simp only[<-e4]at e0;rw[<-e5]at E;have Z:Hid _:=k;have a6:Hid _:=e5;have l9:Hid (wd=aU name):=e6;clear e6 h9 e7 e3 e5 e4 k hW;obtain⟨⟨x0,x1,x2⟩,x3,m,s⟩:=a W (Below.refl _ _);go_enter Tryz.func63,Tryz.ntmps63;go_upto_region 3 with(first
  |(go_at_call 112;refine(c9 _).mono ?_;rintro e w2 ⟨rfl,rfl⟩)
  |(go_at_call 113;refine(c7 _).mono ?_;rintro e w2 ⟨rfl,rfl⟩))
 rw[b3.out];clear b3 c9 c7;go_cut [7] (λs7 wx=>s7=.bool wl/\Below W.heap.size W wx)
 case first=>
  clear a4 E a h5;go_region_with(first
   |(go_at_call 115;refine(e0 _).mono ?_;rintro e v ⟨rfl,rfl⟩)
   |(go_at_call 114;refine(c6 _ _ ?_).mono ?_;(first|exact heap_alloc_new _ _|exact heap_alloc_new W ow);rintro e w7 ⟨rfl,rfl⟩))
  all_goals(go_wp2_with fail;go_meet)
  all_goals exact⟨rfl,by first|exact ae W ow|exact(ae W ow).drew⟩
 case rest=>
  obtain⟨rfl,a7⟩:=hcut;clear x0 x1 x2 x3 m s c6 e0;generalize k7:wc=w3 at*;clear k7;obtain⟨⟨x0,x1,x2⟩,x3,m,s⟩:=a w3 a7;go_upto_region 4 with fail
  go_cut [8] (λs8 wx=>s8=.int .i64 (zJ fi)/\Below W.heap.size W wx)
  case first=>
   clear E a;go_region_with(go_at_call 67;refine(a4 _ ?_).mono ?_;(first|exact a7|exact a7.drew);rintro e v ⟨rfl,S⟩);all_goals(go_wp2_with fail;go_meet)
   all_goals exact⟨rfl,by first|exact S|exact S.drew⟩
  case rest=>
   obtain⟨rfl,D⟩:=hcut;clear x0 x1 x2 x3 m s a4 a7;generalize k8:wc=w4 at*;clear k8;obtain⟨⟨x0,x1,x2⟩,x3,m,s⟩:=a w4 D
   cases wd with
   |false=>
    have H:Hid (jE (bW l) name args body=.error 2):=uh (by rw[Z.out];rfl)
    go_wp2_with fail
    go_ret;exact .inl ⟨2,H.out,by decide,rfl,d.trans (D.mono d.size)⟩
   |true=>
    cases vl with
    |true=>
     have H:Hid (jE (bW l) name args body=.error 2):=uh (by rw[Z.out];rfl)
     go_wp2_with fail
     go_ret;exact .inl ⟨2,H.out,by decide,rfl,d.trans (D.mono d.size)⟩
    |false=>
     cases wl with
     |true=>
      have H:Hid (jE (bW l) name args body=.error 2):=uh (by rw[Z.out];rfl)
      go_wp2_with fail
      go_ret;exact .inl ⟨2,H.out,by decide,rfl,d.trans (D.mono d.size)⟩
     |false=>
      cases fi with
      |some k'=>
       have k4:zJ (some k')=(k':Int):=rfl;have H:Hid (jE (bW l) name args body=.error 2):=uh (by rw[Z.out];rfl)
       go_wp2_with fail
       go_ret;exact .inl ⟨2,H.out,by decide,rfl,d.trans (D.mono d.size)⟩
      |none=>
       have k4:zJ none= -1:=rfl;have J:Hid (oG (bW l) name=true):=by rw[Hid,Z.out];rfl
       have b5:(aa args).size=args.length:=aF _
       cases ty with
       |false=>
        have H:Hid (jE (bW l) name args body=.error 9):=Ap J.out (by rw[tT,<-a6.out,Bool.and_false])
        go_wp2_with(go_at_call 116;refine(E _).mono ?_;rintro e w5 ⟨rfl,rfl⟩)
        go_ret;exact .inl ⟨9,H.out,by decide,rfl,d.trans (D.mono d.size)⟩
       |true=>
        by_cases h4:args.length<=4
        ·have i5:Hid (dQ args=true):=by rw[Hid,tT,<-a6.out,decide_eq_true h4];rfl
         have g5:decide ((4:Int)<((aa args).size:Int))=false:=by rw[b5];simp;omega
         go_upto_region 10 with(go_at_call 116;refine(E _).mono ?_;rintro e w5 ⟨rfl,rfl⟩)
         generalize k6:w5=w4 at*;clear k6;go_cut [10] (λl4 wx=>∃X:Nat,l4=.pointer (some ⟨X,0,none⟩)/\Below w4.heap.size w4 wx/\w4.heap.size<=X/\wx.heap[X]? =some (.cells #[.slice none 0 0,.slice none 0 0,.string (aa args),.slice M f K] 214 (0,0)))
         case first=>
          clear E a h5;go_region;all_goals(go_wp2_with fail;go_meet)
          all_goals exact⟨w4.heap.size,rfl,by first|exact ae w4 _|exact(ae w4 _).drew,Nat.le_refl _,heap_alloc_new w4 _⟩
         case rest=>
          obtain⟨X,rfl,i9,n5,a2⟩:=hcut;clear x0 x1 x2 x3 m s E g5 h4;generalize k9:wc=w5 at*;clear k9;have N:Below W.heap.size W w5:=D.trans (i9.mono D.size);have c4:Below w.heap.size w w5:=d.trans (N.mono d.size);obtain⟨⟨x0,x1,x2⟩,x3,m,s⟩:=a w5 N;have g9:=ai a2;obtain⟨⟨k0,k1,k2,k3⟩,_⟩:=bE a2;have Q:nZ (([]:List (Bs × Int)),aP args) args (l.map (·.1)):=I.known a6.out.symm (λc hc=>by simp at hc) (λc hc=>by simp at hc);have g2:=xe w5 none 0 0 none 0 0 args M f K ([],aP args) (l.map (·.1)) (yP (a0.ag c4)) ha Q body;have g1:Hid _:=QD (body:=body) J.out i5.out;have n2:Hid _:=e2;have l5:Hid _:=a1;clear e2 a1
          go_wp2_with(go_at_call 117;refine g2.mono ?_)
          clear g2;rintro e v ⟨S,hres⟩;have j:Below w.heap.size w v:=c4.trans (S.mono c4.size);have g4:Below W.heap.size W v:=N.trans (S.mono N.size);rcases hres with⟨n,U,h2,rfl⟩|⟨x,t,g,cap,cs,U,k5,G,u,rfl,n3,R⟩
          ·have H:Hid (jE (bW l) name args body=.error n):=by
            rw[Hid,g1.out];have:eG bA ([],aP args) (bW l) body=.error n:=U;rw[this]
           have n6:(n==0)=false:=by simpa using h2
           clear U
           go_wp2_with fail
           go_ret;exact .inl ⟨n,H.out,h2,rfl,j.alloc j.size _⟩
          ·have H:Hid (jE (bW l) name args body=.ok ⟨name,aP args,x⟩):=by
            rw[Hid,g1.out];have:eG bA ([],aP args) (bW l) body=.ok x:=U;rw[this]
           obtain⟨C,T⟩:∃C,(post t).length=C+1:=⟨(post t).length- 1,by have:=mF t;omega⟩;rw[T];have A:=ae v (.cells #[.slice (some ⟨g,0,none⟩) (C+1) cap] 102);have B:=(S.block X g9).trans a2;have h6:((post t).length:Int)+lG ((post t).map (Dl (l.map (·.1))))=x.size:=by
            rw[vR bA ([],aP args) (RF.list (l.map (·.1))) t x u G];congr 2;exact List.map_congr_left λy _=>GI Q y
           have a5:=xg (v.alloc (.cells #[.slice (some ⟨g,0,none⟩) (C+1) cap] 102)) none 0 0 none 0 0 args M f K ([],aP args) (l.map (·.1)) (yP (a0.ag (j.alloc j.size _))) Q g cap (post t) _ cs (R.ag A);rw[h6,T]at a5;have h3:lK (l.map (·.1)) t=x.quiet:=(zb bA Q t x u G).symm;have c1:(post t)[C]? =some t:=by have:=dF t;rw[T,Nat.add_sub_cancel]at this;exact this
           have c8:∀y:World,Below (v.alloc (.cells #[.slice (some ⟨g,0,none⟩) (C+1) cap] 102)).heap.size (v.alloc (.cells #[.slice (some ⟨g,0,none⟩) (C+1) cap] 102)) y->Calls prog 119 #[.agg #[.slice none 0 0,.slice none 0 0,.string (aa args),.slice M f K],.agg #[.slice (some ⟨g,0,none⟩) (C+1) cap],.int .i64 (C:Int)] y λe w'=>e=.returned (.bool x.quiet)/\Below y.heap.size y w':=by
            intro y hy;have:=uP (SizeOf.sizeOf t) t y none 0 0 none 0 0 args M f K ([],aP args) (l.map (·.1)) g cap (post t) _ cs C (Nat.le_refl _) (yP (a0.ag ((j.alloc j.size _).trans (hy.mono (j.alloc j.size _).size)))) Q ((R.ag A).ag hy) c1;rw[h3,T]at this;exact this
           obtain⟨⟨j0,j1,j2,j3⟩,_⟩:=bE ((A.block X (ai B)).trans B);have b8:=heap_alloc_new v (.cells #[.slice (some ⟨g,0,none⟩) (C+1) cap] 102);obtain⟨j4,_⟩:=nP b8;have O:X<(v.alloc (.cells #[.slice (some ⟨g,0,none⟩) (C+1) cap] 102)).heap.size:=by rw[World.size_alloc];have:=ai B;omega
           have b9:v.heap.size<(v.alloc (.cells #[.slice (some ⟨g,0,none⟩) (C+1) cap] 102)).heap.size:=by rw[World.size_alloc];omega
           have B7:Below W.heap.size W (v.alloc (.cells #[.slice (some ⟨g,0,none⟩) (C+1) cap] 102)):=g4.alloc g4.size _;have n1:Below w.heap.size w (v.alloc (.cells #[.slice (some ⟨g,0,none⟩) (C+1) cap] 102)):=j.alloc j.size _;have l7:Hid _:=(A.block X (ai B)).trans B;have i1:Hid _:=R.ag A;have c2:0<=x.size/\x.size<=300:=tC (λfn g8=>by
            rw[RF.list,List.mem_map]at g8;obtain⟨r,V,rfl⟩:=g8;exact I.Bn r V) U
           have c3:dW x.ty:=wm bA Q t x u G;have m6:C+1<=1000:=by have:=R.small;omega
           have j5:C+1<=cap:=by have:=R.cap;omega
           have i3:Hid _:=T;have i8:Hid _:=c3;have i4:Hid _:=c2;have g3:Hid _:=G;have i0:Hid _:=u;clear T h6 h3 c1 U k5 G u R B A b8 c3 c2 x0 x1 x2 x3 m s k0 k1 k2 k3;generalize l0:v.alloc (.cells #[.slice (some ⟨g,0,none⟩) (C+1) cap] 102)=w7 at*;obtain⟨⟨x0,x1,x2⟩,x3,m,s⟩:=a w7 B7;obtain⟨xs,g0⟩:∃z,z=x.size:=⟨_,rfl⟩;obtain⟨xq,e9⟩:∃z,z=x.quiet:=⟨_,rfl⟩;rw[<-g0]at a5;simp only[<-e9]at c8;have i7:Hid _:=g0;have i6:Hid _:=e9;clear g0 e9;go_upto_region 16 with(first
            |(go_at_call 118;refine a5.mono ?_;rintro e w8 ⟨rfl,hb8⟩;have m0:=(hb8.cell (p:=⟨X,0,none⟩) O).trans j0;have m1:=(hb8.cell (p:=⟨X,1,none⟩) O).trans j1;have m2:=(hb8.cell (p:=⟨X,2,none⟩) O).trans j2;have m3:=(hb8.cell (p:=⟨X,3,none⟩) O).trans j3;have m4:=(hb8.cell (p:=⟨v.heap.size,0,none⟩) b9).trans j4)
            |(go_at_call 119;refine(c8 _ hb8).mono ?_;rintro e w9 ⟨rfl,hb9⟩))
           have B8:Below W.heap.size W w8:=B7.trans (hb8.mono B7.size);have B9:Below W.heap.size W w9:=B8.trans (hb9.mono B8.size);have c5:Below w.heap.size w w9:=d.trans (B9.mono d.size);have c0:v.heap.size<w8.heap.size:=Nat.lt_of_lt_of_le b9 hb8.size;have n4:=(hb9.cell (p:=⟨v.heap.size,0,none⟩) c0).trans m4;have g6:v.heap.size<w9.heap.size:=Nat.lt_of_lt_of_le c0 hb9.size;have P:w9.ownsRow (Y+1) 217 5 (.slice M f K) l.length (eY l):=aA F λq hq=>c5.block q (F.lt q hq).2;have l8:∀o:Obj,(w9.alloc o).drew.ownsRow (Y+1) 217 5 (.slice M f K) l.length (eY l):=λo=>World.ownsRow.drew (World.ownsRow.alloc P o);have n7:(slice M f K).ownBlock≠some Y:=λe=>by have:=(P.lt _ e).1;omega
           have m7:(slice M f K).ownBlock≠some w.heap.size:=λe=>by have:=(F.lt _ e).2;omega
           have m8:(slice M f K).ownBlock≠some v.heap.size:=λe=>by have:=(F.lt _ e).2;have:=j.size;omega
           have b6:=(c5.block Y e8).trans a8;have b4:Hid _:=b6;have i2:Hid _:=(i1.out.ag hb8).ag hb9;clear x0 x1 x2 x3 m s m0 m1 m2 m3 m4 j0 j1 j2 j3 j4 a5 c8 b6 a0 a8 l0;obtain⟨⟨x0,x1,x2⟩,x3,m,s⟩:=a w9 B9;refine zh Y w.heap.size v.heap.size w9 l M f K (aa name) (aa args) g (C+1) cap xs xq h7 m s g6 x0 x1 n4 x3 P b4.out _ _ _ _ _ _ _ _ _ _ _ _ _ _ _ _ _ _ _ _ _ _ _ _ _ _ _ _ _ _ _ _ _ _ _ _ _ _ _ _ _ _ _ _ _ _ _ _ _ _ _ _ _ _ _ _ _ _ _ _ _ _ _ _ _ _ _ _ _ _ _ _ _ _ _ _ _ _ _ _ _ _ _ _ _ _ _ _ _ _ _ _ _ _ _ _ _ _ _ ?_;intro v85 n8 n9 o0 o1 o2 o3 o4 o5 o6 o7 o8 o9 p0 p1 m9 n0 g7 m5 p2 L a3 a9 kB;dsimp only
           go_wp2_with fail
           go_ret;all_goals
            have j6: [.string (aa name),.string (aa args),.slice (some ⟨g,0,none⟩) (C+1) cap,.int .i64 xs,.bool xq]=nU ((⟨⟨name,aP args,x⟩,args,t⟩:RF),g,cap):=by
             rw[nU,i7.out,i6.out];simp only[i3.out]
            rw[j6]at a3;have e1:lu w9 ((⟨⟨name,aP args,x⟩,args,t⟩:RF),g,cap):=by
             refine⟨cs,_,i2.out, ?_⟩;show lm bA ([],aP args) (RF.list (l.map (·.1))) (post t) (post t).length ((post t).length- 1)=mO x.ty;rw[lm,if_pos (by have:=mF t;omega),dF t];show SI (bg bA ([],aP args) (RF.list (l.map (·.1))) t)=mO x.ty;rw[g3.out];rfl
            obtain⟨A1,A2⟩:=TM e8 c5 b4.out P h7 b7 e1 a3 a9 kB;have j7:bM name=false:=by
             have h1:=J.out;unfold oG at h1;simp only[Bool.and_eq_true,Bool.not_eq_true']at h1;exact h1.1.2
            have b2:∀r∈(l++ [((⟨⟨name,aP args,x⟩,args,t⟩:RF),g,cap)]).map (·.1),r∈l.map (·.1)\/r=⟨⟨name,aP args,x⟩,args,t⟩:=by
             intro r V;rw[List.map_append,List.mem_append]at V;rcases V with h|h
             ·exact .inl h
             ·simp at h;exact .inr h
            refine .inr ⟨_,t,g,cap,H.out,rfl,A1,⟨λr V=> ?_,λr V=> ?_,λr V=> ?_,λr V=> ?_,λi r hi=> ?_⟩,A2⟩
            ·rcases b2 r V with h|rfl
             ·exact I.UG r h
             ·exact i8.out
            ·rcases b2 r V with h|rfl
             ·exact I.Kk r h
             ·exact⟨rfl,a6.out.symm⟩
            ·rcases b2 r V with h|rfl
             ·exact I.free r h
             ·exact j7
            ·rcases b2 r V with h|rfl
             ·exact I.Bn r h
             ·exact i4.out
            ·rw[List.map_append]at hi ⊢;rcases Nat.lt_or_ge i (l.map (·.1)).length with h|h
             ·rw[List.getElem?_append_left h]at hi;rw[List.take_append_of_le_length (by omega)];exact I.UH i r hi
             ·rw[List.getElem?_append_right h]at hi;have h0:i- (l.map (·.1)).length=0:=by have:=(List.getElem?_eq_some_iff.mp hi).1;simp at this ⊢;omega
              rw[h0]at hi;have j8:(⟨⟨name,aP args,x⟩,args,t⟩:RF)=r:=by simpa using hi
              subst j8;have j9:i=(l.map (·.1)).length:=by omega
              rw[j9,List.take_append_of_le_length (Nat.le_refl _),List.take_length];exact⟨g3.out,i0.out⟩
        ·have H:Hid (jE (bW l) name args body=.error 9):=Ap J.out (by rw[tT,decide_eq_false h4];rfl);have g5:decide ((4:Int)<((aa args).size:Int))=true:=by rw[b5];simp;omega
         go_wp2_with(go_at_call 116;refine(E _).mono ?_;rintro e w5 ⟨rfl,rfl⟩)
         go_ret;exact .inl ⟨9,H.out,by decide,rfl,d.trans (D.mono d.size)⟩
end Go.Proofs.YtdifpeaklamhnaaGreatDoor
