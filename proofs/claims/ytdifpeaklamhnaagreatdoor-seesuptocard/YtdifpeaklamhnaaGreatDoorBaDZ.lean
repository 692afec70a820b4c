import Derived.Test.YtdifpeaklamhnaaGreatDoorBaB
set_option linter.unusedVariables false
set_option linter.unusedSimpArgs false
set_option maxRecDepth 100000
set_option maxHeartbeats 0
namespace Go.Proofs.YtdifpeaklamhnaaGreatDoor
open Go.RowKit
abbrev mM:=Bs × Bs × Bs
def TF(k:Fn->Except Int (List Fn))(o:Except Int Fn):Except Int (List Fn):=match o with
 | .error n=>.error n
 | .ok fn=>k fn
def fq:List Fn->List mM->Except Int (List Fn)
 |acc,[]=>.ok acc
 |acc,f::r=>TF (λfn=>fq (acc++ [fn]) r) (jE acc f.1 f.2.1 f.2.2)
theorem Aq{fns:List Fn}(d:∀fn∈fns,0<=fn.body.size/\fn.body.size<=300){a b c:Bs}{fn:Fn}(h:jE fns a b c=.ok fn):0<=fn.body.size/\fn.body.size<=300:=by
 unfold jE at h;split at h
 ·cases h
 ·split at h
  ·cases h
  ·next x e=>cases h;exact tC d e
theorem DW{fns:List Fn}{a b c:Bs}{n:Int}(h:jE fns a b c=.error n)(r:List mM):fq fns ((a,b,c)::r)=.error n:=by rw[fq,h];rfl
theorem JX{fns:List Fn}{a b c:Bs}{fn:Fn}(h:jE fns a b c=.ok fn)(r:List mM):fq fns ((a,b,c)::r)=fq (fns++ [fn]) r:=by rw[fq,h];rfl
theorem qp.ag{w x:World}{c:Nat}{e:List Nat}{fns:List Fn}(h:qp w c e fns)(hb:Below w.heap.size w x):qp x c e fns:=by
 obtain⟨l,d,k,f,j,m,n,o⟩:=h;exact⟨l,d,k,(hb.block c (ai f)).trans f,aA j λg p=>hb.block g (j.lt g p).2,m,n,λi q fn a b=>(o i q fn a b).ag hb⟩
def fT(w:World)(v:Value)(fs:List mM):Prop:=∃ao cap,v=.slice ao fs.length cap/\fs.length<=maxLen/\(fs= []\/∃b off,ao=some ⟨b,off,none⟩/\b<w.heap.size/\∀(i:Nat) (f:mM),fs[i]? =some f->
 (w.cell? ⟨b,off+i*3,none⟩=some (.string (aa f.1))/\w.cell? ⟨b,off+i*3+1,none⟩=some (.string (aa f.2.1))/\w.cell? ⟨b,off+i*3+2,none⟩=some (.string (aa f.2.2)))/\f.1.length<=maxLen/\f.2.2.length<=maxLen)
theorem pW(x:World)(b g:Nat)(a0 a1:Value)(h:g≠b):((x.setCell ⟨b,0,none⟩ a0).setCell ⟨b,1,none⟩ a1).heap[g]? =x.heap[g]? :=by
 rw[Below.heap_setCell _ _ _ _ h,Below.heap_setCell _ _ _ _ h]
theorem LH(w:World):iP w [] (.slice none 0 0) []:=⟨none,0,rfl,rfl,by simp,.inl rfl,λi q fn h=>by simp at h⟩
theorem fT.ag{w x:World}{v:Value}{g:List mM}(h:fT w v g)(hb:Below w.heap.size w x):fT x v g:=by
 obtain⟨j,cap,l,m,n⟩:=h;refine⟨j,cap,l,m, ?_⟩;rcases n with h|⟨b,off,e,hl,hc⟩
 ·exact .inl h
 ·refine .inr ⟨b,off,e,by have:=hb.size;omega,λi f o=> ?_⟩;obtain⟨⟨a,k,c⟩,d⟩:=hc i f o;exact⟨⟨(hb.cell (p:=⟨b,_,none⟩) hl).trans a,(hb.cell (p:=⟨b,_,none⟩) hl).trans k,(hb.cell (p:=⟨b,_,none⟩) hl).trans c⟩,d⟩
theorem iP.other{w x:World}{f:List Nat}{v:Value}{fns:List Fn}(h:iP w f v fns){b:Nat}{s:Nat × Nat}{F s1:Option Addr}{D E n o:Nat}(hb:w.heap[b]? =some (.cells #[.slice F D n,.slice s1 E o] 194 s))(G:w.heap.size<=x.heap.size)(l:∀g,g≠b->x.heap[g]? =w.heap[g]?):iP x f v fns:=by
 obtain⟨m,cap,u,y,z,A,B⟩:=h;refine⟨m,cap,u,y,z, ?_,λi q fn a c=>(B i q fn a c).grow λg p T t j C=>l g λe=> ?_⟩
 ·rcases A with h|⟨b',e,hl,hc⟩
  ·exact .inl h
  ·refine .inr ⟨b',e,by omega,λi q k=> ?_⟩;have d:b'≠b:=λr=>by
    subst r;have:=hc i q k;rw[af hb]at this
    match i,this with
    |0,this=>simp at this
    |1,this=>simp at this
    |(i+2),this=>simp at this
   rw[World.cell?_of_block (w:=w) (l b' d)];exact hc i q k
 ·subst e;rw[hb]at j;cases j;revert C;decide
end Go.Proofs.YtdifpeaklamhnaaGreatDoor
