import Derived.Test.YtdifpeaklamhnaaGreatDoorBaBZ
set_option linter.unusedVariables false
set_option linter.unusedSimpArgs false
set_option maxRecDepth 100000
set_option maxHeartbeats 0
namespace Go.Proofs.YtdifpeaklamhnaaGreatDoor
open Go.RowKit
abbrev nk:=Bs × Bs × Bs
def Ue(k:Fn->Except Int (List Fn))(o:Except Int Fn):Except Int (List Fn):=match o with
 | .error n=>.error n
 | .ok fn=>k fn
def eY:List Fn->List nk->Except Int (List Fn)
 |acc,[]=>.ok acc
 |acc,f::r=>Ue (λfn=>eY (acc++ [fn]) r) (jH acc f.1 f.2.1 f.2.2)
theorem AP{fns:List Fn}(d:∀fn∈fns,0<=fn.body.size/\fn.body.size<=300){a b c:Bs}{fn:Fn}(h:jH fns a b c=.ok fn):0<=fn.body.size/\fn.body.size<=300:=by
 unfold jH at h;split at h
 ·cases h
 ·split at h
  ·cases h
  ·next x e=>cases h;exact tH d e
theorem Ee{fns:List Fn}{a b c:Bs}{n:Int}(h:jH fns a b c=.error n)(r:List nk):eY fns ((a,b,c)::r)=.error n:=by rw[eY,h];rfl
theorem JH{fns:List Fn}{a b c:Bs}{fn:Fn}(h:jH fns a b c=.ok fn)(r:List nk):eY fns ((a,b,c)::r)=eY (fns++ [fn]) r:=by rw[eY,h];rfl
theorem qB.ah{w x:World}{c:Nat}{e:List Nat}{fns:List Fn}(h:qB w c e fns)(hb:Below w.heap.size w x):qB x c e fns:=by
 obtain⟨l,d,k,f,j,m,n,o⟩:=h;exact⟨l,d,k,(hb.block c (af f)).trans f,aA j λg p=>hb.block g (j.lt g p).2,m,n,λi q fn a b=>(o i q fn a b).ah hb⟩
def fH(w:World)(v:Value)(fs:List nk):Prop:=∃ao cap,v=.slice ao fs.length cap/\fs.length<=maxLen/\(fs= []\/∃b off,ao=some ⟨b,off,none⟩/\b<w.heap.size/\∀(i:Nat) (f:nk),fs[i]? =some f->
 (w.cell? ⟨b,off+i*3,none⟩=some (.string (aa f.1))/\w.cell? ⟨b,off+i*3+1,none⟩=some (.string (aa f.2.1))/\w.cell? ⟨b,off+i*3+2,none⟩=some (.string (aa f.2.2)))/\f.1.length<=maxLen/\f.2.2.length<=maxLen)
theorem tK(x:World)(b g:Nat)(a0 a1:Value)(h:g≠b):((x.setCell ⟨b,0,none⟩ a0).setCell ⟨b,1,none⟩ a1).heap[g]? =x.heap[g]? :=by
 rw[Below.heap_setCell _ _ _ _ h,Below.heap_setCell _ _ _ _ h]
theorem Lu(w:World):jA w [] (.slice none 0 0) []:=⟨none,0,rfl,rfl,by simp,.inl rfl,λi q fn h=>by simp at h⟩
theorem fH.ah{w x:World}{v:Value}{g:List nk}(h:fH w v g)(hb:Below w.heap.size w x):fH x v g:=by
 obtain⟨j,cap,l,m,n⟩:=h;refine⟨j,cap,l,m, ?_⟩;rcases n with h|⟨b,off,e,hl,hc⟩
 ·exact .inl h
 ·refine .inr ⟨b,off,e,by have:=hb.size;omega,λi f o=> ?_⟩;obtain⟨⟨a,k,c⟩,d⟩:=hc i f o;exact⟨⟨(hb.cell (p:=⟨b,_,none⟩) hl).trans a,(hb.cell (p:=⟨b,_,none⟩) hl).trans k,(hb.cell (p:=⟨b,_,none⟩) hl).trans c⟩,d⟩
def Ka(o:Option Nat):Int:=gG o.isNone 2
theorem jA.other{w x:World}{f:List Nat}{v:Value}{fns:List Fn}(h:jA w f v fns){b:Nat}{s:Nat × Nat}{F s1:Option Addr}{D E n o:Nat}(hb:w.heap[b]? =some (.cells #[.slice F D n,.slice s1 E o] 194 s))(G:w.heap.size<=x.heap.size)(l:∀g,g≠b->x.heap[g]? =w.heap[g]?):jA x f v fns:=by
 obtain⟨m,cap,u,y,z,A,B⟩:=h;refine⟨m,cap,u,y,z, ?_,λi q fn a c=>(B i q fn a c).grow λg p T t j C=>l g λe=> ?_⟩
 ·rcases A with h|⟨b',e,hl,hc⟩
  ·exact .inl h
  ·refine .inr ⟨b',e,by omega,λi q k=> ?_⟩;have d:b'≠b:=λr=>by
    subst r;have:=hc i q k;rw[ag hb]at this
    match i,this with
    |0,this=>simp at this
    |1,this=>simp at this
    |(i+2),this=>simp at this
   rw[World.cell?_of_block (w:=w) (l b' d)];exact hc i q k
 ·subst e;rw[hb]at j;cases j;revert C;decide
end Go.Proofs.YtdifpeaklamhnaaGreatDoor
