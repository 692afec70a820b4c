import Derived.Test.YtdifpeaklamhnaaGreatDoorEwUZ
import Derived.Test.YtdifpeaklamhnaaGreatDoorBaFZ
import Derived.Test.YtdifpeaklamhnaaGreatDoorEwNZ
set_option linter.unusedVariables false
set_option linter.unusedSimpArgs false
set_option maxRecDepth 100000
set_option maxHeartbeats 0
namespace Go.Proofs.YtdifpeaklamhnaaGreatDoor
open Go.Proofs.Tryz
open Go.RowKit
open World (size_alloc)
open Bool (and_eq_true)
abbrev oh:=au × List Bs × Int
def oF(n:Int):oh:=(bO,[],n)
def Vs(o:Option Rs):oh:=match o with
 |none=>oF 0
 |some r=>(r.1,r.2.2,r.2.1)
def lW(fs:List nk)(ts:List aT)(user name:Bs)(args:List au):oh:=
 if 30<user.length then oF 9 else match dS fs ts with
 | .error n=>oF n
 | .ok p=>match aV p.1 name with
  |none=>oF 2
  |some i=>match p.1[i]? with
   |none=>oF 2
   |some fn=>if di args fn.args then Vs (nz p.1 user 300 [] args fn.body [])else oF 9
theorem Qz{fns:List Fn}{a b c:Bs}{fn:Fn}(h:jH fns a b c=.ok fn):Ty fns ([],fn.args) fn.body:=by
 unfold jH at h;split at h
 ·cases h
 split at h
 ·cases h
 next x d=>
 cases h;unfold eZ at d;split at d
 ·cases d
 next t e=>
 unfold qh at d;split at d
 ·cases d
 next y f=>
 split at d
 ·cases d
 cases d;exact⟨t,(Bu UC (λ_=>rfl) _ t e).1,f⟩
theorem rT.snoc{a:List Fn}{fn:Fn}(h:rT a)(d:Ty a ([],fn.args) fn.body)(c:0<=fn.body.size/\fn.body.size<=300):rT (a++ [fn]):=λi f b=>by
 rcases Nat.lt_trichotomy i a.length with hl|hl|hl
 ·rw[List.getElem?_append_left hl]at b;rw[List.take_append_of_le_length (by omega)];exact h i f b
 ·subst hl;rw[List.getElem?_append_right (Nat.le_refl _),Nat.sub_self]at b
  cases b;rw[List.take_append_of_le_length (Nat.le_refl _),List.take_length];exact⟨d,c⟩
 ·rw[List.getElem?_eq_none (by simp;omega)]at b;cases b
theorem BG:∀(c:List nk) (a fns:List Fn),rT a->eY a c=.ok fns->rT fns
 | [],a,fns,ha,h=>by rw[eY]at h;cases h;exact ha
 |f::c,a,fns,ha,h=>by
  rw[eY]at h
  cases b:jH a f.1 f.2.1 f.2.2 with
  |error n=>rw[b]at h;cases h
  |ok fn=>
   rw[b]at h;refine BG c (a++ [fn]) fns (ha.snoc (Qz b) (AP (λg e=> ?_) b)) h;obtain⟨i,j,d⟩:=List.mem_iff_getElem.mp e;exact(ha i g (by rw[List.getElem?_eq_getElem j,d])).2
theorem Pt{a:List nk}{e:List aT}{p:List Fn × List (aT × Ex)}(h:dS a e=.ok p):rT p.1:=by
 have b:rT []:=λi f d=>by simp at d
 unfold dS at h;split at h
 ·cases h
 split at h
 ·cases h
 next fns c=>
 have:=BG a [] fns b c;unfold JB at h;split at h
 ·cases h
 ·cases h;exact this
theorem QS{c:au}{t:Int}(h:bH c t=true):sH t c:=by
 obtain⟨k,n,s⟩:=c;simp only[bH,dm,and_eq_true,Bool.or_eq_true,beq_iff_eq]at h;obtain⟨a,b⟩:=h;split at a
 ·next e=>
  simp only[and_eq_true,beq_iff_eq,List.isEmpty_iff]at a;subst e;rw[a.1,a.2];exact .inl rfl
 ·next d=>
  have b:k=t:=b.resolve_left d;split at a
  ·next e=>
   simp only[and_eq_true,List.isEmpty_iff]at a;rw[<-b,e,a.2];exact .inr (.inl ⟨rfl,n,rfl,a.1⟩)
  ·split at a
   ·next e=>
    simp only[and_eq_true,beq_iff_eq,decide_eq_true_eq]at a;rw[<-b,e,a.1];exact .inr (.inr (.inl ⟨rfl,s,rfl,a.2⟩))
   ·split at a
    ·next e=>
     simp only[and_eq_true,Bool.or_eq_true,beq_iff_eq,List.isEmpty_iff]at a;rw[<-b,e,a.2];refine .inr (.inr (.inr ⟨rfl, ?_⟩));rcases a.1 with e|e
     ·exact⟨false,by rw[e];rfl⟩
     ·exact⟨true,by rw[e];rfl⟩
    ·cases a
theorem zR:∀ {cs:List au} {a:List Int},di cs a=true->DK a cs
 | [],[],_=>trivial
 | [],_::_,h=>by cases h
 |_::_,[],h=>by cases h
 |c::cs,t::a,h=>by
  simp only[di,and_eq_true]at h;exact⟨QS h.1,zR h.2⟩
theorem yF{a:List nk}{m:List aT}{p:List Fn × List (aT × Ex)}(h:dS a m=.ok p){i:Nat}{fn:Fn}(j:p.1[i]? =some fn){args:List au}(g:di args fn.args=true){user:Bs}(l:user.length<=30):∃r,nz p.1 user 300 [] args fn.body []=some r/\r.1.2.2.length<=30/\r.2.2.length<=300/\r.1.2.1<=1000000000/\ -1000000000<=r.1.2.1:=by
 have hF:=Pt h;obtain⟨e,n,f⟩:=hF i fn j;obtain⟨r,k,g1,_,b⟩:=(Vp p.1 user l hF 300 i ([],fn.args) [] args fn.body e (by omega) f trivial (zR g)).2 [] (by simp;omega);obtain⟨_,c,d⟩:=g1.bd;simp only[aP,and_eq_true,decide_eq_true_eq]at d;simp only[List.length_nil]at b;exact⟨r,k,c,by omega,by omega,by omega⟩
def Ns(w:World)(o:Except Int (List Fn × List (aT × Ex)))(e:Ending)(w':World):Prop:=Below w.heap.size w w'/\
 ((∃n:Int,o=.error n/\n≠0/\e=.returned (.tuple #[.agg #[.slice none 0 0,.slice none 0 0],.int .i64 n]))\/
  (∃(p:List Fn × List (aT × Ex)) (FB:List Nat) (fo:Option Addr) (fnn fc:Nat) (to':Option Addr) (tn tc:Nat),o=.ok p/\e=.returned (.tuple #[.agg #[.slice fo fnn fc,.slice to' tn tc],.int .i64 0])/\jA w' FB (.slice fo fnn fc) p.1))
def pU(user:Bs)(o:Except Int (List Fn × List (aT × Ex))):Except Int (List Fn × List (aT × Ex)):=if 30<user.length then .error 9 else o
theorem Df(w:World)(d:List nk)(s:Option Addr)(r cap:Nat)(C:fH w (.slice s r cap) d)(f:List aT)(b:Option Addr)(q p:Nat)(i:jm w (.slice b q p) f)(a:Bs):
  Calls prog 68 #[.agg #[.slice s r cap,.slice b q p],.string (aa a)] w λe w'=>Ns w (pU a (dS d f)) e w':=by
 by_cases B:30<a.length
 ·have A:30<(aa a).size:=by rw[aF];exact B
  have K:decide ((30:Int)<((aa a).size:Int))=true:=by simp;omega
  have l:Hid (pU a (dS d f)=.error 9):=by rw[Hid,pU,if_pos B]
  clear C i;go_enter Tryz.func68,Tryz.ntmps68
  go_wp2_with fail
  refine bodyPost_ret (v:=.tuple #[.agg #[.slice none 0 0,.slice none 0 0],.int .i64 9]) (by simp[results,Tryz.results68,go_sem]) rfl ⟨?_,.inl ⟨9,l.out,by decide,rfl⟩⟩;exact az w _ _
 ·have A:(aa a).size<=30:=by rw[aF];omega
  have K:decide ((30:Int)<((aa a).size:Int))=false:=by simp;omega
  have l:Hid (pU a (dS d f)=dS d f):=by rw[Hid,pU,if_neg B]
  have G:=Ae _ d _ (C.ah (az w (.cells #[.slice s r cap,.slice b q p] 67) (.cells #[.slice none 0 0,.slice none 0 0] 194))) f b q p (i.ah (az w (.cells #[.slice s r cap,.slice b q p] 67) (.cells #[.slice none 0 0,.slice none 0 0] 194)));clear C i;go_enter Tryz.func68,Tryz.ntmps68
  go_wp2_with(go_at_call 62;refine G.mono ?_)
  clear G;rintro e w2 ⟨h,hres⟩;obtain⟨x,E,O⟩:=iI h;obtain⟨z0,P,I,g1⟩:=jq x;have M:w.heap.size+1<w2.heap.size:=by omega
  rcases hres with⟨n,m,N,rfl⟩|⟨fns,H,F,u,c,t,k,D,j,m,rfl,hF,z,o⟩
  ·have y:Hid (pU a (dS d f)=.error n):=l.out.trans m;clear m h x l
   go_wp2_with fail
   exact bodyPost_ret (v:=.tuple #[.agg #[.slice none 0 0,.slice none 0 0],.int .i64 n]) (by simp[results,Tryz.results68,go_sem,z0,I]) rfl ⟨(E.setCell (by simp) _).setCell (by simp) _,.inl ⟨n,y.out,N,rfl⟩⟩
  ·have y:Hid (pU a (dS d f)=.ok (fns,H)):=l.out.trans m;have J:Hid (jA ((w2.setCell ⟨w.heap.size+1,0,none⟩ (.slice u c t)).setCell ⟨w.heap.size+1,1,none⟩ (.slice k D j)) F (.slice u c t) fns):=
    hF.other x (by simp[World.size_setCell]) λg L=>tK _ _ _ _ _ L
   clear m h x hF z o l
   go_wp2_with fail
   exact bodyPost_ret (v:=.tuple #[.agg #[.slice u c t,.slice k D j],.int .i64 0]) (by simp[results,Tryz.results68,go_sem,z0,I]) rfl ⟨(E.setCell (by simp) _).setCell (by simp) _,.inr ⟨(fns,H),F,u,c,t,k,D,j,y.out,rfl,J.out⟩⟩
def gM(w:World)(r:oh)(e:Ending)(w':World):Prop:=∃no nn nc,e=.returned (.tuple #[.agg #[.int .i64 r.1.1,.int .i64 r.1.2.1,.string (aa r.1.2.2)],.slice no nn nc,.int .i64 r.2.2])/\w'.ownsRow w.heap.size 9 1 (.slice no nn nc) r.2.1.length (bD r.2.1)/\Below w.heap.size w w'
theorem gM.bad{w:World}{r:oh}{n:Int}(b:r=oF n){e:Ending}{w':World}(a:e=.returned (.tuple #[.agg #[.int .i64 0,.int .i64 0,.string ⟨#[]⟩],.slice none 0 0,.int .i64 n]))(hb:Below w.heap.size w w'):gM w r e w':=by
 subst b;exact⟨none,0,0,a,World.ownsRow_nil _ _ _ _,hb⟩
theorem Ba{c:List nk}{d:List aT}{a name:Bs}{args:List au}{n:Int}(h:pU a (dS c d)=.error n):lW c d a name args=oF n:=by
 unfold pU at h;unfold lW;split at h
 ·next b=>rw[if_pos b];cases h;rfl
 ·next b=>rw[if_neg b,h]
theorem CE{a:Bs}{o:Except Int (List Fn × List (aT × Ex))}{p:List Fn × List (aT × Ex)}(h:pU a o=.ok p):o=.ok p/\a.length<=30:=by
 unfold pU at h;split at h
 ·cases h
 ·next b=>exact⟨h,by omega⟩
theorem Et{b:List nk}{c:List aT}{a name:Bs}{args:List au}{p:List Fn × List (aT × Ex)}(h:pU a (dS b c)=.ok p):lW b c a name args=match aV p.1 name with
  |none=>oF 2
  |some i=>match p.1[i]? with
   |none=>oF 2
   |some fn=>if di args fn.args then Vs (nz p.1 a 300 [] args fn.body [])else oF 9:=by
 obtain⟨d,e⟩:=CE h;rw[lW,if_neg (by omega),d]
 try rfl
theorem oV{w:World}{b c n size:Nat}{e:TypeId}{v:Value}{d:List Value}(h:w.ownsRow b e size v n d)(hb:c<=b):w.ownsRow c e size v n d:=⟨h.1,h.2.imp id λ⟨g,cap,a,e,f,r⟩=>⟨g,cap,a,e,Nat.le_trans hb f,r⟩⟩
theorem iE{w x:World}{g:Nat}{o:Obj}(hb:Below w.heap.size w x)(h:w.heap[g]? =some o)(a:g<w.heap.size):x.heap[g]? =some o:=(hb.block g a).trans h
theorem vC(w:World)(fs:List nk)(X:Option Addr)(W cap:Nat)(hv:fH w (.slice X W cap) fs)(ts:List aT)(y:Option Addr)(tl Z:Nat)(a2:jm w (.slice y tl Z) ts)(a name:Bs)(args:List au)(D:Option Addr)(C B:Nat)(Y:dU w (.slice D C B) args)(hT:sJ w):
  Calls prog 30 #[.agg #[.slice X W cap,.slice y tl Z],.string (aa a),.string (aa name),.slice D C B] w λe w'=>gM w (lW fs ts a name args) e w':=by
 have m:=az w (.cells #[.slice X W cap,.slice y tl Z] 67) (aC 0 0 ⟨#[]⟩);have k1:((w.alloc (.cells #[.slice X W cap,.slice y tl Z] 67)).alloc (aC 0 0 ⟨#[]⟩)).heap[w.heap.size+1]? =some (aC 0 0 ⟨#[]⟩):=by
  have:=heap_alloc_new (w.alloc (.cells #[.slice X W cap,.slice y tl Z] 67)) (aC 0 0 ⟨#[]⟩);rw[size_alloc]at this;exact this
 have l:=Df _ fs X W cap (hv.ah m) ts y tl Z (a2.ah m) a;clear hv a2;go_enter Tryz.func30,Tryz.ntmps30
 go_wp2_with(go_at_call 68;refine l.mono ?_)
 clear l;rintro e w2 ⟨M,⟨n,ho,hn,rfl⟩|⟨p,FB,fo,fnn,fc,to',tn,tcc,ho,rfl,hF⟩⟩
 ·have l:Hid (lW fs ts a name args=oF n):=Ba ho;obtain⟨kR,O,a6⟩:=iI M;have h:=rV (w2.alloc (.cells #[.slice none 0 0,.slice none 0 0] 194)) [] [] none 0 0 none 0 0 (Lu _) name;have a0:Hid (aM [n,2]=n):=by rw[Hid,aM,if_neg hn]
  have b2:(n==0)=false:=by simpa using hn
  have I:Ka (aV [] name)=2:=rfl;rw[I]at h;clear ho M m k1 hT Y I
  go_wp2_with(go_at_call 65;refine h.mono ?_)
  clear h;rintro e z ⟨⟨p,rfl,hp⟩,hb3⟩;have Q:p=none:=hp;subst Q;have d:Below w2.heap.size w2 z:=(ae w2 _).trans (hb3.mono (by simp[size_alloc]));have k:=iG z n 2;rw[a0.out]at k;have k3:=iE (d.trans ((ae z (.cells #[.int .i64 n,.int .i64 2] 68)).mono d.size)) kR (by omega);have l3:=af k3;obtain⟨⟨z0,z1,z2⟩,S,T,U⟩:=aJ k3;clear a0 hp
  go_wp2_with(go_at_call 66;refine k.mono ?_;rintro e w4 ⟨rfl,rfl⟩)
  refine bodyPost_ret (v:=.tuple #[.agg #[.int .i64 0,.int .i64 0,.string ⟨#[]⟩],.slice none 0 0,.int .i64 n]) (by simp[results,Tryz.results30,go_sem,z0,z1,z2]) rfl (gM.bad l.out rfl ?_);have L:=O.trans ((d.trans ((ae z (.cells #[.int .i64 n,.int .i64 2] 68)).mono d.size)).mono O.size)
  first|exact L|exact aI L (by omega) _ _ _
 have l:Hid (lW fs ts a name args=_):=Et ho;obtain⟨h0,a8⟩:=CE ho;obtain⟨k2,O,a6⟩:=iI M;obtain⟨fns,tt⟩:=p;simp only at hF l;have h:=rV (w2.alloc (.cells #[.slice fo fnn fc,.slice to' tn tcc] 194)) FB fns fo fnn fc to' tn tcc (hF.ah (ae w2 _)) name;clear M m k1 ho
 cases H:aV fns name with
 |none=>
  rw[H]at h l;have I:Ka none=2:=rfl;rw[I]at h;clear H I hT Y hF h0
  go_wp2_with(go_at_call 65;refine h.mono ?_)
  clear h;rintro e z ⟨⟨p,rfl,hp⟩,hb3⟩;have Q:p=none:=hp;subst Q;have d:Below w2.heap.size w2 z:=(ae w2 _).trans (hb3.mono (by simp[size_alloc]));have k:=iG z 0 2;rw[show aM [0,2]=2 from rfl]at k;have k3:=iE (d.trans ((ae z (.cells #[.int .i64 0,.int .i64 2] 68)).mono d.size)) k2 (by omega);have l3:=af k3;obtain⟨⟨z0,z1,z2⟩,S,T,U⟩:=aJ k3;clear hp
  go_wp2_with(go_at_call 66;refine k.mono ?_;rintro e w4 ⟨rfl,rfl⟩)
  refine bodyPost_ret (v:=.tuple #[.agg #[.int .i64 0,.int .i64 0,.string ⟨#[]⟩],.slice none 0 0,.int .i64 2]) (by simp[results,Tryz.results30,go_sem,z0,z1,z2]) rfl (gM.bad l.out rfl ?_);have L:=O.trans ((d.trans ((ae z (.cells #[.int .i64 0,.int .i64 2] 68)).mono d.size)).mono O.size)
  first|exact L|exact aI L (by omega) _ _ _
 |some i=>
  have a4:=yO H;obtain⟨fn,t⟩:∃fn,fns[i]? =some fn:=⟨_,List.getElem?_eq_getElem a4⟩;rw[H]at h l;simp only[t]at l;rw[show Ka (some i)=0 from rfl]at h;clear H
  go_wp2_with(go_at_call 65;refine h.mono ?_)
  clear h;rintro e z ⟨⟨p,rfl,hp⟩,hb3⟩;obtain⟨fb,N,rfl⟩:∃b,FB[i]? =some b/\p=some ⟨b,0,none⟩:=hp;have d:Below w2.heap.size w2 z:=(ae w2 _).trans (hb3.mono (by simp[size_alloc]));have L:=O.trans (d.mono O.size);have k:=iG z 0 0;rw[show aM [0,0]=0 from rfl]at k;clear hb3
  go_wp2_with(go_at_call 66;refine k.mono ?_;rintro e w4 ⟨rfl,rfl⟩)
  have P:=ae z (.cells #[.int .i64 0,.int .i64 0] 68);have E:=d.trans (P.mono d.size);have V:=L.trans (P.mono L.size);have F:∀x:World,Below w2.heap.size w2 x->∀(j q:Nat) (f:Fn),FB[j]? =some q->fns[j]? =some f->kD x FB q f:=λx hx j q f h1 h2=>(hF.choose_spec.choose_spec.2.2.2.2 j q f h1 h2).ah hx;have a1:FB.length=fns.length:=hF.choose_spec.choose_spec.2.1;have A:=MO _ FB fb fn (F _ E i fb fn N t) D C B args (Y.1.ah V)
  cases ht:di args fn.args with
  |false=>
   rw[ht]at A l;rw[if_neg Bool.false_ne_true]at l;have k4:=iE E k2 (by omega);clear Y hT hF F h0 t N ht
   go_wp2_with(go_at_call 69;refine A.mono ?_;rintro e J ⟨rfl,hb5⟩;have k5:=iE hb5 k4 (af k4);have l5:=af k5;obtain⟨⟨z0,z1,z2⟩,S,T,U⟩:=aJ k5)
   refine bodyPost_ret (v:=.tuple #[.agg #[.int .i64 0,.int .i64 0,.string ⟨#[]⟩],.slice none 0 0,.int .i64 9]) (by simp[results,Tryz.results30,go_sem,z0,z1,z2]) rfl (gM.bad l.out rfl ?_);have K:=V.trans (hb5.mono V.size)
   first|exact K|exact aI K (by omega) _ _ _
  |true=>
   rw[ht]at A l;rw[if_pos rfl]at l;obtain⟨r,hr,b1,b3, -, -⟩:=yF (i:=i) (fn:=fn) h0 t ht a8;rw[hr]at l
   go_wp2_with(go_at_call 69;refine A.mono ?_;rintro e J ⟨rfl,hb5⟩)
   have o:=E.trans (hb5.mono E.size);have K:=V.trans (hb5.mono V.size);have b4:=o.size;clear A hb5 E V P d L;have s:=ae J (.cells #[.string (aa a),.slice none 0 0] 221);have kw:=heap_alloc_new J (.cells #[.string (aa a),.slice none 0 0] 221);have R:(J.alloc (.cells #[.string (aa a),.slice none 0 0] 221)).heap.size=J.heap.size+1:=size_alloc _ _;have HW:Calls prog 70 #[.pointer (some ⟨J.heap.size,0,none⟩),.pointer (some ⟨fb,0,none⟩),.slice D C B] (J.alloc (.cells #[.string (aa a),.slice none 0 0] 221)) λe w'=>Fin J.heap.size a r (J.alloc (.cells #[.string (aa a),.slice none 0 0] 221)) e w':=by
    refine uS (by rw[R];omega) ((F _ o i fb fn N t).ah s) λx c hx a9=> ?_;have m:=s.trans (hx.mono s.size);have a3:=(hx.block _ (by rw[R];omega)).trans kw;refine Vv fns a 300 fn.body r x FB J.heap.size [] args none 0 0 D C B c [] hr ⟨a1,λj q f h1 h2=>F x (o.trans (m.mono o.size)) j q f h1 h2,λu hu=>iR (iR hT K) (m.trans hu),⟨⟨none,0,rfl,by simp,.inl rfl⟩,λ_ _ _ e _ _ eb=>by cases e;cases eb⟩,Y.ah (K.trans (m.mono K.size))⟩ ⟨none,0,0,a3,World.ownsRow_nil _ _ _ _⟩ a9
   go_wp2_with(go_at_call 70;refine HW.mono ?_;rintro e w6 ⟨rfl,⟨no,nn,nc,kn,hown⟩,hk6⟩)
   have B6:Below w.heap.size w w6:=(K.trans (s.mono K.size)).trans (hk6.1.mono K.size);have b0:=K.size;have kR:w6.heap[w.heap.size+1]? =some (aC 0 0 ⟨#[]⟩):=hk6.2 _ _ _ _ (iE s (iE o k2 (by omega)) (by omega)) (by decide) (by decide);have ln:=af kn;have lR:=af kR;obtain⟨n0,b9,n1,c0⟩:=jq kn;obtain⟨⟨z0,z1,z2⟩,S,T,U⟩:=aJ kR;have a7:(aa r.1.2.2).size<=281474976710656:=by rw[aF];omega
   have HO:=λx:World=>Ry r.1.1 r.1.2.1 (aa r.1.2.2) x a7;have a5:∀g,(Value.slice no nn nc).ownBlock=some g->g≠w.heap.size+1:=λg hg=>by have:=(hown.lt g hg).1;omega
   clear HW hk6 kw s o hF F Y ht t N R hT h0 hr;go_region_with(go_at_call 71;refine(HO _).mono ?_;rintro e w7 ⟨rfl,G⟩;replace G:=iA G;obtain⟨m0,b7,m1,b8⟩:=jq ((G.block _ (by simp only[size_alloc];omega)).trans ((Below.heap_alloc _ _ _ ln).trans kn));obtain⟨⟨r0,r1,r2⟩,c1,c2,c3⟩:=aJ ((G.block _ (by simp only[size_alloc];omega)).trans ((Below.heap_alloc _ _ _ lR).trans kR));have B7:Below w6.heap.size w6 w7:=(ae w6 _).trans (G.mono (by simp[size_alloc]));have b5:=Nat.lt_of_lt_of_le lR B7.size;have b6:=Nat.lt_of_lt_of_le ln B7.size);all_goals(go_wp2_with fail)
   all_goals
    refine bodyPost_ret (v:=.tuple #[.agg #[.int .i64 r.1.1,.int .i64 r.1.2.1,.string (aa r.1.2.2)],.slice no nn nc,.int .i64 r.2.1]) (by simp[results,Tryz.results30,go_sem,r0,r1,r2]) rfl ?_;rw[l.out];refine⟨no,nn,nc,rfl, ?_, ?_⟩
    ·have h7:=aA hown (x:=w7) λg hg=>B7.block g (hown.lt g hg).2;have h8:=oV (aA h7 (x:=((w7.setCell ⟨w.heap.size+1,0,none⟩ (.int .i64 r.1.1)).setCell ⟨w.heap.size+1,1,none⟩ (.int .i64 r.1.2.1)).setCell ⟨w.heap.size+1,2,none⟩ (.string (aa r.1.2.2))) λg hg=>bF _ _ _ _ _ _ (a5 g hg)) (show w.heap.size<=J.heap.size+1 by omega)
     first|exact h8|exact World.ownsRow.drew h8
    ·have B8:=aI (B6.trans (B7.mono B6.size)) (b:=w.heap.size+1) (by omega) (.int .i64 r.1.1) (.int .i64 r.1.2.1) (.string (aa r.1.2.2))
     first|exact B8|exact B8.drew
end Go.Proofs.YtdifpeaklamhnaaGreatDoor
