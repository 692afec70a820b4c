import Derived.Test.YtdifpeaklamhnaaGreatDoorTaFZ
set_option linter.unusedVariables false
set_option linter.unusedSimpArgs false
set_option maxRecDepth 100000
set_option maxHeartbeats 0
namespace Go.Proofs.YtdifpeaklamhnaaGreatDoor
open Go.Proofs.Tryz
open Go.RowKit
open Value (string slice int)
theorem bK{P:Program}{x:World}{b j:Nat}{a:Array Value}{T:TypeId}{v:Value}(h:x.heap[b]? =some (.cells a T (0,0)))(e:j<a.size)(f:v.oneCell'=true):(store ⟨b,j,none⟩ v).run P x=.ok () (x.setCell ⟨b,j,none⟩ v)/\(x.setCell ⟨b,j,none⟩ v).heap[b]? =some (.cells (a.set! j v) T (0,0)):=by
 have c:x.cell? ⟨b,j,none⟩=some a[j]:=by simp[World.cell?,h,e]
 have d:x.frozen? ⟨b,j,none⟩=false:=by simp[World.frozen?,h]
 refine⟨?_, ?_⟩
 ·rw[run_store _ _ _ _ _ f,c];simp[d]
 ·simp[World.setCell,Array.getElem?_modify,h]
theorem yB(w:World)(S:List Nat)(c:List (aJ × Ex))(fo:Option Addr)(y fc:Nat)(d:Option Addr)(tn R:Nat)(h:jm w S (.slice d tn R) c)(l:Bs)(h0:dH c l≠none):
  Calls prog 76 #[.agg #[.slice fo y fc,.slice d tn R],.string (aa l)] w λe w'=>Below w.heap.size w w'/\((dH c l=none/\e=.returned (.tuple #[.agg #[.string ⟨#[]⟩,.slice none 0 0,.slice none 0 0,.int .i64 0,.string ⟨#[]⟩,.slice none 0 0,.int .i64 0,.int .i64 0,.int .i64 0,.bool false,.int .i64 0,.int .i64 0,.string ⟨#[]⟩,.int .i64 0,.string ⟨#[]⟩,.pointer none,.slice none 0 0],.int .i64 2]))\/∃(i:Nat) (Q:aJ × Ex) (r:fw),dH c l=some i/\c[i]? =some Q/\e=.returned (.tuple #[.agg #[.string (aa r.name),.slice r.co r.cn r.cc,.slice r.ro r.rn r.rc,.int .i64 r.count,.string (aa r.aD),.slice r.uo r.un r.uc,.int .i64 r.sort,.int .i64 r.ty,.int .i64 r.size,.bool r.quiet,.int .i64 r.vk,.int .i64 r.vn,.string (aa r.vs),.int .i64 r.place,.string (aa r.head),.pointer r.fp,.slice r.xo r.xn r.xc],.int .i64 0])/\mf w' S r Q.1 Q.2):=by
 have c4:Below w.heap.size w (((w.alloc (.cells #[.slice fo y fc,.slice d tn R] 194)).alloc (.cells #[.string (aa l)] 9)).alloc (.cells #[.string ⟨#[]⟩,.slice none 0 0,.slice none 0 0,.int .i64 0,.string ⟨#[]⟩,.slice none 0 0,.int .i64 0,.int .i64 0,.int .i64 0,.bool false,.int .i64 0,.int .i64 0,.string ⟨#[]⟩,.int .i64 0,.string ⟨#[]⟩,.pointer none,.slice none 0 0] 235)):=(pG (Below.refl _ _)).1;have hq:(((w.alloc (.cells #[.slice fo y fc,.slice d tn R] 194)).alloc (.cells #[.string (aa l)] 9)).alloc (.cells #[.string ⟨#[]⟩,.slice none 0 0,.slice none 0 0,.int .i64 0,.string ⟨#[]⟩,.slice none 0 0,.int .i64 0,.int .i64 0,.int .i64 0,.bool false,.int .i64 0,.int .i64 0,.string ⟨#[]⟩,.int .i64 0,.string ⟨#[]⟩,.pointer none,.slice none 0 0] 235)).cell? ⟨w.heap.size+1,0,none⟩=some (.string (aa l)):=by
  have:=heap_alloc_new (w.alloc (.cells #[.slice fo y fc,.slice d tn R] 194)) (.cells #[.string (aa l)] 9);rw[World.size_alloc]at this;exact(af ((Below.heap_alloc _ _ _ (by simp only[World.size_alloc];omega)).trans this)).trans rfl
 have HC:=nK _ S _ c (w.heap.size+1) l (h.ag c4) (by simp only[World.size_alloc];omega) hq;have h':=h;obtain⟨ao,cap,he,hl,hz⟩:=h
 cases he;go_enter Tryz.func76,Tryz.ntmps76
 go_wp2_with(go_at_call 133;refine HC.mono ?_)
 clear HC hq;rintro e w2 ⟨⟨k,rfl,⟨hN,rfl⟩|⟨i,hN,rfl,hlt⟩⟩,hb2⟩
 ·exact absurd hN h0
 ·obtain⟨b,rfl,hb,hc⟩:∃b,d=some ⟨b,0,none⟩/\b<w.heap.size/\∀(i:Nat) (Q:aJ × Ex),c[i]? =some Q->∃r:fw,wD w b i r/\mf w S r Q.1 Q.2:=by
   rcases hz with h|h
   ·subst h;simp at hlt
   ·exact h
  have x:=List.getElem?_eq_getElem hlt;obtain⟨r,z,hr⟩:=hc i c[i] x;have HO:Hid (dH c l=some i/\c[i]? =some c[i]):=⟨hN,x⟩;obtain⟨B2,⟨hS,hR⟩,l0,l2⟩:=pG hb2;obtain⟨q0,q1,q2,q3,q4,q5,q6,q7,q8,q9,e3,e4,e5,e6,e7,e8,e9⟩:=z.ag λo=>B2.cell (p:=⟨b,o,none⟩) hb;have s1:w2.cell? ⟨w.heap.size,1,none⟩=some (.slice (some ⟨b,0,none⟩) c.length R):=(af hS).trans rfl;obtain⟨⟨z0,z1,z2,z3,z4,z5,z6,z7,z8,z9,i3,i4,i5,i6,i7,i8,i9⟩,g0,g1,g2,g3,g4,g5,g6,g7,g8,g9,h8,h9,i0,i1,i2,g15,g16⟩:=uu hR;have HX:Hid (mf w S r c[i].1 c[i].2):=hr;have X:=hR;obtain⟨a0,E0⟩:∃a,Hid (a=string (aa r.name)):=⟨_,rfl⟩;rw[<-E0.out]at q0;have o0:a0.oneCell'=true:=by rw[E0.out];rfl
  obtain⟨a1,E1⟩:∃a,Hid (a=slice r.co r.cn r.cc):=⟨_,rfl⟩;rw[<-E1.out]at q1;have o1:a1.oneCell'=true:=by rw[E1.out];rfl
  obtain⟨a2,E2⟩:∃a,Hid (a=slice r.ro r.rn r.rc):=⟨_,rfl⟩;rw[<-E2.out]at q2;have o2:a2.oneCell'=true:=by rw[E2.out];rfl
  obtain⟨a3,E3⟩:∃a,Hid (a=int .i64 r.count):=⟨_,rfl⟩;rw[<-E3.out]at q3;have o3:a3.oneCell'=true:=by rw[E3.out];rfl
  obtain⟨a4,E4⟩:∃a,Hid (a=string (aa r.aD)):=⟨_,rfl⟩;rw[<-E4.out]at q4;have o4:a4.oneCell'=true:=by rw[E4.out];rfl
  obtain⟨a5,E5⟩:∃a,Hid (a=slice r.uo r.un r.uc):=⟨_,rfl⟩;rw[<-E5.out]at q5;have o5:a5.oneCell'=true:=by rw[E5.out];rfl
  obtain⟨U,E6⟩:∃a,Hid (a=int .i64 r.sort):=⟨_,rfl⟩;rw[<-E6.out]at q6;have o6:U.oneCell'=true:=by rw[E6.out];rfl
  obtain⟨V,E7⟩:∃a,Hid (a=int .i64 r.ty):=⟨_,rfl⟩;rw[<-E7.out]at q7;have o7:V.oneCell'=true:=by rw[E7.out];rfl
  obtain⟨W,E8⟩:∃a,Hid (a=int .i64 r.size):=⟨_,rfl⟩;rw[<-E8.out]at q8;have o8:W.oneCell'=true:=by rw[E8.out];rfl
  obtain⟨a9,E9⟩:∃a,Hid (a=Value.bool r.quiet):=⟨_,rfl⟩;rw[<-E9.out]at q9;have o9:a9.oneCell'=true:=by rw[E9.out];rfl
  obtain⟨f,H⟩:∃a,Hid (a=int .i64 r.vk):=⟨_,rfl⟩;rw[<-H.out]at e3;have c6:f.oneCell'=true:=by rw[H.out];rfl
  obtain⟨g,I⟩:∃a,Hid (a=int .i64 r.vn):=⟨_,rfl⟩;rw[<-I.out]at e4;have c7:g.oneCell'=true:=by rw[I.out];rfl
  obtain⟨n,J⟩:∃a,Hid (a=string (aa r.vs)):=⟨_,rfl⟩;rw[<-J.out]at e5;have c8:n.oneCell'=true:=by rw[J.out];rfl
  obtain⟨q,K⟩:∃a,Hid (a=int .i64 r.place):=⟨_,rfl⟩;rw[<-K.out]at e6;have c9:q.oneCell'=true:=by rw[K.out];rfl
  obtain⟨s,L⟩:∃a,Hid (a=string (aa r.head)):=⟨_,rfl⟩;rw[<-L.out]at e7;have e0:s.oneCell'=true:=by rw[L.out];rfl
  obtain⟨t,M⟩:∃a,Hid (a=Value.pointer r.fp):=⟨_,rfl⟩;rw[<-M.out]at e8;have e1:t.oneCell'=true:=by rw[M.out];rfl
  obtain⟨u,N⟩:∃a,Hid (a=slice r.xo r.xn r.xc):=⟨_,rfl⟩;rw[<-N.out]at e9;have e2:u.oneCell'=true:=by rw[N.out];rfl
  clear hN hb2 hz hR hS hc x hr z h'
  go_wp2_with fail
  have m:w2.heap[w.heap.size+1+1]? =_:=X;obtain⟨b4,m0⟩:=bK (P:=prog) (j:=0) m (by simp) o0;obtain⟨b5,m1⟩:=bK (P:=prog) (j:=1) m0 (by simp) o1;obtain⟨b6,m2⟩:=bK (P:=prog) (j:=2) m1 (by simp) o2;obtain⟨b7,m3⟩:=bK (P:=prog) (j:=3) m2 (by simp) o3;obtain⟨b8,m4⟩:=bK (P:=prog) (j:=4) m3 (by simp) o4;obtain⟨b9,m5⟩:=bK (P:=prog) (j:=5) m4 (by simp) o5;obtain⟨c0,m6⟩:=bK (P:=prog) (j:=6) m5 (by simp) o6;obtain⟨c1,m7⟩:=bK (P:=prog) (j:=7) m6 (by simp) o7;obtain⟨c2,m8⟩:=bK (P:=prog) (j:=8) m7 (by simp) o8;obtain⟨c3,m9⟩:=bK (P:=prog) (j:=9) m8 (by simp) o9;obtain⟨A,Y⟩:=bK (P:=prog) (j:=10) m9 (by simp) c6;obtain⟨B,Z⟩:=bK (P:=prog) (j:=11) Y (by simp) c7;obtain⟨C,b0⟩:=bK (P:=prog) (j:=12) Z (by simp) c8;obtain⟨D,b1⟩:=bK (P:=prog) (j:=13) b0 (by simp) c9;obtain⟨E,b2⟩:=bK (P:=prog) (j:=14) b1 (by simp) e0;obtain⟨F,b3⟩:=bK (P:=prog) (j:=15) b2 (by simp) e1;obtain⟨G,c5⟩:=bK (P:=prog) (j:=16) b3 (by simp) e2;clear m0 m1 m2 m3 m4 m5 m6 m7 m8 m9 Y Z b0 b1 b2 b3 c5;simp only[b4,b5,b6,b7,b8,b9,c0,c1,c2,c3,A,B,C,D,E,F,G,Result.andThen];clear b4 b5 b6 b7 b8 b9 c0 c1 c2 c3 A B C D E F G
  go_wp2_with fail
  have BF:=xw B2 (b:=w.heap.size+2) (by omega) a0 a1 a2 a3 a4 a5 U V W a9 f g n q s t u;have KF:=Gy X a0 a1 a2 a3 a4 a5 U V W a9 f g n q s t u;refine(show∀T:World,T=_->bodyPost prog Tryz.f76 _ Exit.ret _ T from λT O=> ?_) _ rfl;replace BF:Below w.heap.size w T:=by rw[O];exact BF
  replace KF:T.heap[w.heap.size+2]? =some (.cells #[a0,a1,a2,a3,a4,a5,U,V,W,a9,f,g,n,q,s,t,u] 235 (0,0)):=by rw[O];exact KF
  clear O;obtain⟨⟨y0,y1,y2,y3,y4,y5,y6,y7,y8,y9,h1,h2,h3,h4,h5,h6,h7⟩,_⟩:=uu KF;refine bodyPost_ret (v:=.tuple #[.agg #[a0,a1,a2,a3,a4,a5,U,V,W,a9,f,g,n,q,s,t,u],.int .i64 0]) (by simp[results,Tryz.results76,go_sem,y0,y1,y2,y3,y4,y5,y6,y7,y8,y9,h1,h2,h3,h4,h5,h6,h7]) rfl ?_;exact⟨BF,.inr ⟨i,c[i],r,HO.out.1,HO.out.2,by rw[E0.out,E1.out,E2.out,E3.out,E4.out,E5.out,E6.out,E7.out,E8.out,E9.out,H.out,I.out,J.out,K.out,L.out,M.out,N.out],HX.out.ag BF⟩⟩
theorem rW(w:World)(d:List Nat)(c:List (aJ × Ex))(k:Option Addr)(b j:Nat)(a:Option Addr)(g f:Nat)(h:jm w d (.slice a g f) c)(l:Bs):
  Calls prog 76 #[.agg #[.slice k b j,.slice a g f],.string (aa l)] w λe w'=>Below w.heap.size w w'/\((dH c l=none/\e=.returned (.tuple #[.agg #[.string ⟨#[]⟩,.slice none 0 0,.slice none 0 0,.int .i64 0,.string ⟨#[]⟩,.slice none 0 0,.int .i64 0,.int .i64 0,.int .i64 0,.bool false,.int .i64 0,.int .i64 0,.string ⟨#[]⟩,.int .i64 0,.string ⟨#[]⟩,.pointer none,.slice none 0 0],.int .i64 2]))\/∃(i:Nat) (m:aJ × Ex) (r:fw),dH c l=some i/\c[i]? =some m/\e=.returned (.tuple #[.agg #[.string (aa r.name),.slice r.co r.cn r.cc,.slice r.ro r.rn r.rc,.int .i64 r.count,.string (aa r.aD),.slice r.uo r.un r.uc,.int .i64 r.sort,.int .i64 r.ty,.int .i64 r.size,.bool r.quiet,.int .i64 r.vk,.int .i64 r.vn,.string (aa r.vs),.int .i64 r.place,.string (aa r.head),.pointer r.fp,.slice r.xo r.xn r.xc],.int .i64 0])/\mf w' d r m.1 m.2):=by
 by_cases n:dH c l=none
 ·exact yA w d c k b j a g f h l n
 ·exact yB w d c k b j a g f h l n
end Go.Proofs.YtdifpeaklamhnaaGreatDoor
