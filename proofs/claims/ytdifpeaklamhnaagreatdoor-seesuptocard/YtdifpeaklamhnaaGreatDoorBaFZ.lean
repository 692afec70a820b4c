import Derived.Test.YtdifpeaklamhnaaGreatDoorAtB
set_option linter.unusedVariables false
set_option linter.unusedSimpArgs false
set_option maxRecDepth 100000
set_option maxHeartbeats 0
namespace Go.Proofs.YtdifpeaklamhnaaGreatDoor
open Go.RowKit
def Ao(w:World)(b o:Nat)(t:aJ):Prop:=∃(co:Option Addr) (cn cc:Nat) (ro:Option Addr) (rn rc:Nat) (uo:Option Addr) (un uc:Nat),
 (w.cell? ⟨b,o,none⟩=some (.string (aa t.name))/\w.cell? ⟨b,o+1,none⟩=some (.slice co cn cc)/\w.cell? ⟨b,o+2,none⟩=some (.slice ro rn rc)/\w.cell? ⟨b,o+3,none⟩=some (.int .i64 t.count)/\w.cell? ⟨b,o+4,none⟩=some (.string (aa t.aD))/\w.cell? ⟨b,o+5,none⟩=some (.slice uo un uc))/\
 dM w (.slice co cn cc) t.ax/\RowsIn w (.slice ro rn rc) t.rows/\eD w (.slice uo un uc) t.eZ/\t.name.length<=maxLen/\t.aD.length<=maxLen
def jI(w:World)(v:Value)(ts:List aJ):Prop:=∃ao cap,v=.slice ao ts.length cap/\ts.length<=maxLen/\(ts= []\/∃b off,ao=some ⟨b,off,none⟩/\b<w.heap.size/\∀(i:Nat) (t:aJ),ts[i]? =some t->Ao w b (off+i*6) t)
theorem Ao.ag{w x:World}{b o:Nat}{t:aJ}(h:Ao w b o t)(m:b<w.heap.size)(hb:Below w.heap.size w x):Ao x b o t:=by
 obtain⟨co,cn,cc,ro,rn,rc,uo,un,uc,⟨c,d,e,f,g,i⟩,j,k,l,h⟩:=h;have a:∀o,x.cell? ⟨b,o,none⟩=w.cell? ⟨b,o,none⟩:=λo=>hb.cell (p:=⟨b,o,none⟩) m;exact⟨co,cn,cc,ro,rn,rc,uo,un,uc,⟨(a _).trans c,(a _).trans d,(a _).trans e,(a _).trans f,(a _).trans g,(a _).trans i⟩,j.ag hb,k.ag hb,l.ag hb,h⟩
theorem jI.ag{w x:World}{v:Value}{a:List aJ}(h:jI w v a)(hb:Below w.heap.size w x):jI x v a:=by
 obtain⟨c,cap,d,f,g⟩:=h;refine⟨c,cap,d,f, ?_⟩;rcases g with h|⟨b,off,e,hl,hc⟩
 ·exact .inl h
 ·exact .inr ⟨b,off,e,by have:=hb.size;omega,λi t j=>(hc i t j).ag hl hb⟩
def iw(fns:List Fn):List (aJ × Ex)->List aJ->Except Int (List (aJ × Ex))
 |acc,[]=>.ok acc
 |acc,t::r=>match cZ fns acc t with
  | .error n=>.error n
  | .ok x=>iw fns (acc++ [(t,x)]) r
def Dw(fns:List Fn)(o:Except Int (List (aJ × Ex))):Except Int (List Fn × List (aJ × Ex)):=match o with
 | .error n=>.error n
 | .ok tt=>.ok (fns,tt)
def dz(fs:List mM)(ts:List aJ):Except Int (List Fn × List (aJ × Ex)):=
 if 8<fs.length\/4<ts.length then .error 9 else
 match fq [] fs with
 | .error n=>.error n
 | .ok fns=>Dw fns (iw fns [] ts)
theorem Bf{a:List mM}{b:List aJ}{n:Int}(d:a.length<=8)(c:b.length<=4)(h:fq [] a=.error n):dz a b=.error n:=by
 rw[dz,if_neg (by omega),h]
theorem pR{a:List mM}{b:List aJ}{fns:List Fn}(d:a.length<=8)(c:b.length<=4)(h:fq [] a=.ok fns):dz a b=Dw fns (iw fns [] b):=by
 rw[dz,if_neg (by omega),h]
theorem pq.ag{w0 w x:World}{d:Nat}{j:List Nat}{fns:List Fn}{p:List (aJ × Ex)}(h:pq w0 w d j fns p)(hb:Below w.heap.size w x):pq w0 x d j fns p:=by
 obtain⟨s,e,q,f,C,B,c,t,k,l,u,m,v,y,z,n⟩:=h;exact⟨s,e,q,f,C,B,c,t,k.trans (hb.mono k.size),(hb.block d (ai l)).trans l,u.ag hb,aA m λg A=>hb.block g (m.lt g A).2,v,y,z,λi r o a b=>⟨(n i r o a b).1,(n i r o a b).2.ag hb⟩⟩
theorem Ie{w wr:World}{b:Nat}{d:List Nat}{fns:List Fn}(h:qp wr b d fns)(hb:w.heap.size<=b)(n:Below w.heap.size w wr):pq w wr b d fns []:=by
 obtain⟨f,c,e,g,j,k,l,m⟩:=h;exact⟨f,c,e,none,0,0,[],hb,n,g,AR j k l m,World.ownsRow_nil _ _ _ _,rfl,by simp,λ_=>rfl,λi r o a=>by simp at a⟩
end Go.Proofs.YtdifpeaklamhnaaGreatDoor
