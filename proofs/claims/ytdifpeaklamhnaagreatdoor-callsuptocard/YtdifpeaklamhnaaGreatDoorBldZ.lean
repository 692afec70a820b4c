import Derived.Test.YtdifpeaklamhnaaGreatDoorScanZ
set_option linter.unusedVariables false
set_option linter.unusedSimpArgs false
set_option maxRecDepth 100000
set_option maxHeartbeats 0
namespace Go.Proofs.YtdifpeaklamhnaaGreatDoor
open Go.Proofs.Tryz
open Go.RowKit
open Below (refl heap_setCell heap_alloc alloc)
open World (cell? setCell cell?_of_block frozen?)
open Nat (le_refl le_trans)
open Value (slice)
open Addr (add)
theorem fw(w:World)(row:Option Nat):w.grownBy w row:=⟨rfl,rfl,rfl,le_refl _,λ_ _ _=>rfl⟩
theorem aD{a b c:World}{row:Option Nat}(h:a.grownBy b row)(k:b.grownBy c row):a.grownBy c row:=
 ⟨k.os.trans h.os,k.tape.trans h.tape,k.output.trans h.output,le_trans h.size k.size,λi d e=>(k.block i (Nat.lt_of_lt_of_le d h.size) e).trans (h.block i d e)⟩
theorem bz{a b:World}(h:Below a.heap.size a b)(row:Option Nat):a.grownBy b row:=
 ⟨h.os,h.tape,h.output,h.size,λk c _=>h.block k c⟩
theorem aO{a b:World}{row:Option Nat}(h:a.grownBy b row)(o:Obj):a.grownBy (b.alloc o) row:=
 aD h (bz ((refl _ _).alloc (le_refl _) _) _)
def bg(w:World)(rb:Nat)(ts:List Tk):Prop:=
 ∃v,w.heap[rb]? =some (.cells #[v] 170 (0,0))/\
  ((ts= []/\∃ao cap,v=.slice ao 0 cap)\/
   (∃g off cap,v=.slice (some ⟨g,off,none⟩) ts.length cap/\g<rb/\ts.length<=cap/\cap<=maxLen/\∀j u,(df ts)[j]? =some u->w.cell? ⟨g,off+j,none⟩=some u))
theorem zh(w:World)(a:Nat)(h:bg w a []):
  Calls prog 101 #[.pointer (some ⟨a,0,none⟩)] w λe w'=>e=.returned (.agg #[.int .i64 0,.string ⟨#[]⟩])/\Below w.heap.size w w':=by
 obtain⟨b,cap,c⟩:∃b cap,w.cell? ⟨a,0,none⟩=some (.slice b 0 cap):=by
  obtain⟨v,hb,h⟩:=h;have c:w.cell? ⟨a,0,none⟩=some v:=by simp[cell?,hb]
  rcases h with⟨_,b,cap,rfl⟩|⟨g,f,cap,rfl,_⟩
  ·exact⟨_,_,c⟩
  ·exact⟨_,_,c⟩
 have d:a<w.heap.size:=by
  obtain⟨v,hb,_⟩:=h;rcases Nat.lt_or_ge a w.heap.size with h'|h'
  ·exact h'
  ·simp[Array.getElem?_eq_none h']at hb
 clear h;go_enter Tryz.func101,Tryz.ntmps101
 go_wp2
 exact bodyPost_ret (v:=.agg #[.int .i64 0,.string ⟨#[]⟩]) (by simp[results,Tryz.results101,go_sem]) rfl ⟨rfl,(refl _ _).alloc (le_refl _) _⟩
theorem ek(w:World)(b:Nat)(a:Nat)(v:Value):w.grownBy (w.setCell ⟨b,a,none⟩ v) (some b):=
 ⟨rfl,rfl,rfl,by simp[setCell],λk _ c=>heap_setCell _ _ _ _ (λe=>c (by simp[e]))⟩
theorem Ag(w:World)(a:Nat)(v v':Value)(T:TypeId)(h:w.heap[a]? =some (.cells #[v] T (0,0))):(w.setCell ⟨a,0,none⟩ v').heap[a]? =some (.cells #[v'] T (0,0)):=by
 simp[setCell,Array.getElem?_modify,h]
theorem af{w:World}{k:Nat}{o:Obj}(h:w.heap[k]? =some o):k<w.heap.size:=by
 rcases Nat.lt_or_ge k w.heap.size with h'|h'
 ·exact h'
 ·simp[Array.getElem?_eq_none h']at h
theorem IG{w w':World}{a:Nat}(h:w.grownBy w' (some a)){p:Addr}(b:p.block<w.heap.size)(c:p.block≠a):w'.cell? p=w.cell? p:=
 cell?_of_block (h.block p.block b (by simpa using c))
theorem BI{w:World}{c g b off' cap cap':Nat}{t:Tk}{d:List Tk}(o1 o2:Obj){v:Value}(hb:w.heap[c]? =some (.cells #[v] 170 (0,0)))
  (i:g<c) (f:d.length+1<=cap) (h:cap<=2 ^ 63- 1)
  (a:∀j u,(df (t::d))[j]? =some u->w.cell? ⟨g,b+j,none⟩=some u) (e:(d= []/\cap'<=maxLen)\/(off'=b+2/\cap'=cap- 1)):
  w.grownBy (((w.setCell ⟨c,0,none⟩ (.slice (some ⟨g,off',none⟩) d.length cap')).alloc o1).alloc o2) (some c)/\
   bg (((w.setCell ⟨c,0,none⟩ (.slice (some ⟨g,off',none⟩) d.length cap')).alloc o1).alloc o2) c d:=by
 have l:=af hb;have G:=aO (aO (ek w c 0 (.slice (some ⟨g,off',none⟩) d.length cap')) o1) o2;refine⟨G,.slice (some ⟨g,off',none⟩) d.length cap', ?_, ?_⟩
 ·rw[heap_alloc _ _ _ (by simp[setCell];omega),heap_alloc _ _ _ (by simp[setCell];omega)];exact Ag w c v _ _ hb
 ·rcases e with⟨rfl,_⟩|⟨rfl,rfl⟩
  ·exact .inl ⟨rfl,_,_,rfl⟩
  ·refine .inr ⟨g,b+2,cap- 1,rfl,i,by omega,by unfold maxLen;omega,λj u k=> ?_⟩;rw[IG G (p:=⟨g,b+2+j,none⟩) (by show g<_;omega) (by show g≠_;omega)];have:=a (j+2) u (by rw[df,List.flatMap_cons];simpa[lJ,df]using k);rw[<-this];congr 2;omega
theorem kK(w:World)(f:Nat)(t:Tk)(k:List Tk)(h:bg w f (t::k)):
  Calls prog 101 #[.pointer (some ⟨f,0,none⟩)] w λe w'=>e=.returned (.agg #[.int .i64 t.1,.string (aa t.2)])/\w.grownBy w' (some f)/\bg w' f k:=by
 obtain⟨v,hb,h⟩:=h;rcases h with⟨h,_⟩|⟨g,d,cap,rfl,p,b,c,a⟩
 ·cases h
 have B:w.cell? ⟨f,0,none⟩=some (.slice (some ⟨g,d,none⟩) (k.length+1) cap):=by simp[cell?,hb]
 have C:w.frozen? ⟨f,0,none⟩=false:=by simp[frozen?,hb]
 have u:f<w.heap.size:=af hb;have s:g<w.heap.size:=by omega
 have r:g≠f:=by omega
 have z:w.cell? ⟨g,d,none⟩=some (.int .i64 t.1):=a 0 _ (by simp[df,lJ]);have A:w.cell? ⟨g,d+1,none⟩=some (.string (aa t.2)):=a 1 _ (by simp[df,lJ]);simp only[List.length_cons]at b;unfold maxLen at c;have o:Hid _:=a;have n:Hid _:=hb;clear a hb;go_enter Tryz.func101,Tryz.ntmps101
 go_wp2
 ·have q:k= []:=List.length_eq_zero_iff.mp (by omega);obtain⟨l,m⟩:=BI (o1:=.cells #[.int .i64 t.1,.string (aa t.2)] 93) (o2:=.cells #[.int .i64 t.1,.string (aa t.2)] 93) (off':=d) (cap':=0) n.out p b c o.out (.inl ⟨q,by unfold maxLen;omega⟩);exact bodyPost_ret (v:=.agg #[.int .i64 t.1,.string (aa t.2)]) (by simp[results,Tryz.results101,go_sem]) rfl ⟨rfl,l,m⟩
 ·obtain⟨l,m⟩:=BI (o1:=.cells #[.int .i64 t.1,.string (aa t.2)] 93) (o2:=.cells #[.int .i64 t.1,.string (aa t.2)] 93) (off':=d+2) (cap':=cap- 1) n.out p b c o.out (.inr ⟨rfl,rfl⟩);exact bodyPost_ret (v:=.agg #[.int .i64 t.1,.string (aa t.2)]) (by simp[results,Tryz.results101,go_sem]) rfl ⟨rfl,l,m⟩
theorem Ij(w:World)(a:Nat)(h:bg w a []):
  Calls prog 174 #[.pointer (some ⟨a,0,none⟩)] w λe w'=>e=.returned (.bool false)/\w'=w:=by
 obtain⟨b,cap,c⟩:∃b cap,w.cell? ⟨a,0,none⟩=some (.slice b 0 cap):=by
  obtain⟨v,hb,h⟩:=h;have c:w.cell? ⟨a,0,none⟩=some v:=by simp[cell?,hb]
  rcases h with⟨_,b,cap,rfl⟩|⟨g,d,cap,rfl,_⟩
  ·exact⟨_,_,c⟩
  ·exact⟨_,_,c⟩
 clear h;go_enter Tryz.func174,Tryz.ntmps174
 go_wp2_with fail
 go_ret;exact⟨rfl,rfl⟩
theorem Lg(w:World)(f:Nat)(t:Tk)(j:List Tk)(h:bg w f (t::j))(i:¬t.1=2):
  Calls prog 174 #[.pointer (some ⟨f,0,none⟩)] w λe w'=>e=.returned (.bool false)/\w'=w:=by
 obtain⟨v,hb,h⟩:=h;rcases h with⟨h,_⟩|⟨g,d,cap,rfl,n,b,c,a⟩
 ·cases h
 have m:w.cell? ⟨f,0,none⟩=some (.slice (some ⟨g,d,none⟩) (j.length+1) cap):=by simp[cell?,hb]
 have l:w.cell? ⟨g,d,none⟩=some (.int .i64 t.1):=a 0 _ (by simp[df,lJ]);have k:(t.1 != 2)=true:=by simpa using i
 simp only[List.length_cons]at b;unfold maxLen at c;clear a hb i;go_enter Tryz.func174,Tryz.ntmps174
 go_wp2_with fail
 go_ret;exact⟨rfl,rfl⟩
theorem Ik(w:World)(f:Nat)(t:Tk)(i:List Tk)(h:bg w f (t::i))(j:t.1=2):
  Calls prog 174 #[.pointer (some ⟨f,0,none⟩)] w λe w'=>e=.returned (.bool true)/\w.grownBy w' (some f)/\bg w' f i:=by
 have k:=h;obtain⟨v,hb,h⟩:=h;rcases h with⟨h,_⟩|⟨g,d,cap,rfl,o,b,c,a⟩
 ·cases h
 have n:w.cell? ⟨f,0,none⟩=some (.slice (some ⟨g,d,none⟩) (i.length+1) cap):=by simp[cell?,hb]
 have m:w.cell? ⟨g,d,none⟩=some (.int .i64 t.1):=a 0 _ (by simp[df,lJ]);have l:(t.1 != 2)=false:=by simpa using j
 simp only[List.length_cons]at b;unfold maxLen at c;clear a hb j;go_enter Tryz.func174,Tryz.ntmps174
 go_wp2_with(go_at_call 101;refine(kK _ _ t i k).mono ?_;rintro e w2 ⟨rfl,hg2,hr2⟩)
 go_ret;exact⟨rfl,hg2,hr2⟩
theorem bg.lt{w:World}{rb:Nat}{a:List Tk}(h:bg w rb a):rb<w.heap.size:=by
 obtain⟨v,hb,_⟩:=h;exact af hb
theorem bg.ah{w x:World}{a:Nat}{c:List Tk}(h:bg w a c)(b:∀k,k<=a->x.heap[k]? =w.heap[k]?):bg x a c:=by
 obtain⟨v,hb,h⟩:=h;refine⟨v,by rw[b a (le_refl _)];exact hb, ?_⟩;rcases h with h|⟨g,off,cap,hv,hg,hcap,hmax,hcells⟩
 ·exact .inl h
 ·refine .inr ⟨g,off,cap,hv,hg,hcap,hmax,λj u d=> ?_⟩;rw[cell?_of_block (w:=w) (b g (by omega))];exact hcells j u d
theorem bg.setCell{w:World}{a:Nat}{c:List Tk}(h:bg w a c){b:Nat}(hb:a<b)(o:Nat)(v:Value):bg (w.setCell ⟨b,o,none⟩ v) a c:=
 h.ah λk d=>heap_setCell _ _ _ _ (λe=>by simp at e;omega)
theorem bg.alloc{w:World}{a:Nat}{b:List Tk}(h:bg w a b)(o:Obj):bg (w.alloc o) a b:=
 h.ah λk c=>heap_alloc _ _ _ (by have:=h.lt;omega)
theorem bg.below{w x:World}{a:Nat}{b:List Tk}(h:bg w a b)(hb:Below w.heap.size w x):bg x a b:=
 h.ah λk c=>hb.block k (by have:=h.lt;omega)
theorem cZ{a b:World}{row:Option Nat}(h:a.grownBy b row){k:Nat}(f:a.heap.size<=k)(o:Nat)(v:Value):a.grownBy (b.setCell ⟨k,o,none⟩ v) row:=
 ⟨h.os,h.tape,h.output,by simpa[setCell]using h.size,λi c d=>(heap_setCell _ _ _ _ (λe=>by simp at e;omega)).trans (h.block i c d)⟩
inductive Tr where
 |mk (k:Int) (tx:Bs) (br:Bool) (ops:List Tr)
mutual
def gX:Nat->Nat->List Tk->Option (Tr × List Tk)
 |0,_,_=>none
 |_+1,_,[]=>none
 |f+1,deep,t::r=>if t.1=1 then DL f (deep+1) r else if fT t.1 t.2 then some (.mk t.1 t.2 false [],r)else none
def DL:Nat->Nat->List Tk->Option (Tr × List Tk)
 |0,_,_=>none
 |_+1,_,[]=>none
 |f+1,deep,h::r=>if 20<deep then none else if ku h.1 h.2 then(lH f deep r).map (λp=>(.mk h.1 h.2 true p.1,p.2))else none
def lH:Nat->Nat->List Tk->Option (List Tr × List Tk)
 |0,_,_=>none
 |_+1,_,[]=>none
 |f+1,deep,t::r=>if t.1=2 then some ([],r)else
   match gX f deep (t::r)with
   |none=>none
   |some (x,r')=>(lH f deep r').map (λp=>(x::p.1,p.2))
end
mutual
inductive lh(w:World)(S:Nat->Prop):List Value->Tr->Prop
 |mk {k:Int} {tx:Bs} {br:Bool} {ops:List Tr} {v:Value} {cs:List Value} :gD w S cs ops->w.ownsRow 0 96 4 v ops.length cs->(∀g,v.ownBlock=some g->S g)->
   lh w S [.int .i64 k,.string (aa tx),.bool br,v] (.mk k tx br ops)
inductive gD(w:World)(S:Nat->Prop):List Value->List Tr->Prop
 |nil:gD w S [] []
 |cons {c cs:List Value} {t:Tr} {ts:List Tr} :lh w S c t->gD w S cs ts->gD w S (c++cs) (t::ts)
end
theorem kL{w:World}{b a n size:Nat}{e:TypeId}{v:Value}{c:List Value}(h:w.ownsRow b e size v n c)(hb:∀g,v.ownBlock=some g->a<=g):w.ownsRow a e size v n c:=by
 refine⟨h.1, ?_⟩;rcases h.2 with h|⟨g,cap,cur,rfl,_,h⟩
 ·exact .inl h
 ·exact .inr ⟨g,cap,cur,rfl,hb g rfl,h⟩
theorem aA{w x:World}{b n size:Nat}{e:TypeId}{v:Value}{a:List Value}(h:w.ownsRow b e size v n a)(hb:∀g,v.ownBlock=some g->x.heap[g]? =w.heap[g]?):x.ownsRow b e size v n a:=by
 refine⟨h.1, ?_⟩;rcases h.2 with h|⟨g,cap,cur,rfl,h1,h2,h⟩
 ·exact .inl h
 ·exact .inr ⟨g,cap,cur,rfl,h1,by rw[hb g rfl];exact h2,h⟩
mutual
theorem lh.move{w x:World}{S S':Nat->Prop}(f:∀g,S g->x.heap[g]? =w.heap[g]?)(h:∀g,S g->S' g):∀ {c:List Value} {t:Tr},lh w S c t->lh x S' c t
 |_,_,.mk a b d=>.mk (gD.move f h a) (aA b λg e=>f g (d g e)) λg e=>h g (d g e)
theorem gD.move{w x:World}{S S':Nat->Prop}(d:∀g,S g->x.heap[g]? =w.heap[g]?)(e:∀g,S g->S' g):∀ {c:List Value} {t:List Tr},gD w S c t->gD x S' c t
 |_,_,.nil=>.nil
 |_,_,.cons a b=>.cons (lh.move d e a) (gD.move d e b)
end
theorem lh.four{w:World}{S:Nat->Prop}{c:List Value}{t:Tr}(h:lh w S c t):c.length=4:=by cases h;rfl
theorem gD.snoc{w:World}{S:Nat->Prop}{c d:List Value}{t:List Tr}{u:Tr}(h:gD w S c t)(k:lh w S d u):gD w S (c++d) (t++ [u]):=by
 induction t generalizing c with
 |nil=>cases h;have:=gD.cons k gD.nil;simpa using this
 |cons t e ih=>
  cases h with
  |cons a b=>rw[List.append_assoc];exact .cons a (ih b)
theorem lh.leaf(w:World)(S:Nat->Prop)(k:Int)(b:Bs)(a:Bool):lh w S [.int .i64 k,.string (aa b),.bool a,.slice none 0 0] (.mk k b a []):=
 .mk .nil (World.ownsRow_nil _ _ _ _) (λg c=>by cases c)
theorem lh.bounded{w:World}{S:Nat->Prop}{c:List Value}{t:Tr} :lh w S c t->lh w (λg=>S g/\g<w.heap.size) c t:=by
 intro h;have b:(∀ {c:List Value} {t:Tr},lh w S c t->lh w (λg=>S g/\g<w.heap.size) c t):=by
  intro c t h;refine lh.rec (motive_1:=λc t _=>lh w (λg=>S g/\g<w.heap.size) c t) (motive_2:=λc t _=>gD w (λg=>S g/\g<w.heap.size) c t) ?_ ?_ ?_ h
  ·intro k m j i v cs _ a e ih;exact .mk ih a λg d=>⟨e g d,(a.lt g d).2⟩
  ·exact .nil
  ·intro c cs t l _ _ f i2;exact .cons f i2
 exact b h
theorem gD.bounded{w:World}{S:Nat->Prop}{c:List Value}{t:List Tr}(h:gD w S c t):gD w (λg=>S g/\g<w.heap.size) c t:=by
 induction t generalizing c with
 |nil=>cases h;exact .nil
 |cons t d ih=>
  cases h with
  |cons a b=>exact .cons a.bounded (ih b)
theorem Pm{wr f h:World}{p c:Nat}{v v':Value}{cs b:List Value}{o:List Tr}{x:Tr}(u w:Obj)
  (C:p<c) (B:c<wr.heap.size) (m:wr.ownsRow (c+1) 96 4 v o.length cs) (t:gD wr (λg=>c<g/\v.ownBlock≠some g) cs o)
  (l:wr.grownBy f (some p)) (D:lh f (λg=>wr.heap.size<=g) b x)
  (i:h.ownsRow (c+1) 96 4 v' (o.length+1) (cs++b)) (s:((f.alloc u).alloc w).grownBy h v.ownBlock)
  (k:v'.ownBlock=v.ownBlock\/v'.ownBlock=some ((f.alloc u).alloc w).heap.size):
  gD (h.setCell ⟨c,3,none⟩ v') (λg=>c<g/\v'.ownBlock≠some g) (cs++b) (o++ [x])/\
  (h.setCell ⟨c,3,none⟩ v').ownsRow (c+1) 96 4 v' (o++ [x]).length (cs++b)/\
  (∀g,g<wr.heap.size->g≠p->v.ownBlock≠some g->h.heap[g]? =wr.heap[g]?)/\
  (∀g,g<f.heap.size->v.ownBlock≠some g->h.heap[g]? =f.heap[g]?):=by
 have E:=l.size;have y:((f.alloc u).alloc w).heap.size=f.heap.size+2:=by simp
 have ah:∀g,g<f.heap.size->v.ownBlock≠some g->h.heap[g]? =f.heap[g]? :=by
  intro g q r;rw[s.block g (by omega) (λe=>r e.symm),heap_alloc _ _ _ (by simp;omega),heap_alloc _ _ _ q]
 have d:∀g,g<wr.heap.size->g≠p->v.ownBlock≠some g->h.heap[g]? =wr.heap[g]? :=by
  intro g q r A;rw[ah g (by omega) A,l.block g q (by simpa using r)]
 have n:∀g,v.ownBlock=some g->g<wr.heap.size:=λg a=>(m.lt g a).2;refine⟨gD.snoc ?_ ?_, ?_,d,ah⟩
 ·refine t.bounded.move (λg a=> ?_) (λg a=>⟨a.1.1, ?_⟩)
  ·rw[heap_setCell _ _ _ _ (by show g≠c;have:=a.1.1;omega),d g a.2 (by have:=a.1.1;omega) a.1.2]
  ·rcases k with e|e
   ·rw[e];exact a.1.2
   ·rw[e,y];intro j;have z:=Option.some.inj j;have:=a.2;omega
 ·refine D.bounded.move (λg a=> ?_) (λg a=>⟨by have:=a.1;omega, ?_⟩)
  ·rw[heap_setCell _ _ _ _ (by show g≠c;have:=a.1;omega),ah g a.2 (λe=>by have:=n g e;have:=a.1;omega)]
  ·rcases k with e|e
   ·rw[e];intro j;have:=n g j;have:=a.1;omega
   ·rw[e,y];intro j;have z:=Option.some.inj j;have:=a.2;omega
 ·rw[List.length_append];exact ownsRow_setCell_below i (by show c<c+1;omega) _
theorem Oy{w wr j W o:World}{n:Nat}{row:Option Nat}(h:w.grownBy wr (some n))(l:wr.grownBy j (some n))(p:W.os=j.os/\W.tape=j.tape/\W.output=j.output/\j.heap.size<=W.heap.size)(m:W.grownBy o row)
  (r:∀g,row=some g->w.heap.size<=g) (q:∀g,g<wr.heap.size->g≠n->row≠some g->o.heap[g]? =wr.heap[g]?):w.grownBy o (some n):=by
 obtain⟨a,b,c,d⟩:=p;refine⟨m.os.trans (a.trans (l.os.trans h.os)),m.tape.trans (b.trans (l.tape.trans h.tape)),m.output.trans (c.trans (l.output.trans h.output)),le_trans h.size (le_trans l.size (le_trans d m.size)),λk f i=> ?_⟩;rw[q k (Nat.lt_of_lt_of_le f h.size) (λe=>i (by rw[e])) (λe=>by have:=r k e;omega)];exact h.block k f i
def Reads(w:World)(rb:Nat)(ts:List Tk)(o:Option (Tr × List Tk))(e:Ending)(w':World):Prop:=
 w.grownBy w' (some rb)/\
  ((o=none/\e=.returned (.tuple #[.agg #[.int .i64 0,.string ⟨#[]⟩,.bool false,.slice none 0 0],.bool false]))\/
   (∃k tx br ao n cap t r,o=some (t,r)/\r.length<ts.length/\e=.returned (.tuple #[.agg #[.int .i64 k,.string (aa tx),.bool br,.slice ao n cap],.bool true])/\
    bg w' rb r/\lh w' (λg=>w.heap.size<=g) [.int .i64 k,.string (aa tx),.bool br,.slice ao n cap] t))
def yu(f:Nat):Prop:=∀(w:World) (rb deep:Nat) (ts:List Tk),bg w rb ts->2*ts.length<=f->ts.length<=400->deep<=21->
 Calls prog 55 #[.pointer (some ⟨rb,0,none⟩),.int .i64 deep] w λe w'=>Reads w rb ts (gX f deep ts) e w'
def Nk(f:Nat):Prop:=∀(w:World) (rb deep:Nat) (ts:List Tk),bg w rb ts->2*ts.length+1<=f->ts.length<=400->deep<=22->
 Calls prog 102 #[.pointer (some ⟨rb,0,none⟩),.int .i64 deep] w λe w'=>Reads w rb ts (DL f deep ts) e w'
theorem bB{x:World}{b:Nat}{a0 a1 a2 a3:Value}{T:TypeId}(h:x.heap[b]? =some (.cells #[a0,a1,a2,a3] T (0,0))):
  (x.cell? ⟨b,0,none⟩=some a0/\x.cell? ⟨b,1,none⟩=some a1/\x.cell? ⟨b,2,none⟩=some a2/\x.cell? ⟨b,3,none⟩=some a3)/\
  (x.frozen? ⟨b,0,none⟩=false/\x.frozen? ⟨b,1,none⟩=false/\x.frozen? ⟨b,2,none⟩=false/\x.frozen? ⟨b,3,none⟩=false):=by
 simp[cell?,frozen?,h]
theorem NT{x:World}{b:Nat}{a0 a1:Value}{T:TypeId}(h:x.heap[b]? =some (.cells #[a0,a1] T (0,0))):
  (x.cell? ⟨b,0,none⟩=some a0/\x.cell? ⟨b,1,none⟩=some a1)/\(x.frozen? ⟨b,0,none⟩=false/\x.frozen? ⟨b,1,none⟩=false):=by
 simp[cell?,frozen?,h]
theorem bI(w:World)(o:Obj):(w.alloc o).heap[w.heap.size]? =some o:=heap_alloc_new w o
theorem dD{x:World}{b:Nat}{o:Obj}(h:x.heap[b]? =some o)(a:Obj):(x.alloc a).heap[b]? =some o:=by
 rw[heap_alloc _ _ _ (af h)];exact h
theorem bX{x y:World}{b:Nat}{o:Obj}(h:x.heap[b]? =some o)(hb:Below x.heap.size x y):y.heap[b]? =some o:=by
 rw[hb.block _ (af h)];exact h
theorem bY{x y:World}{b c:Nat}{o:Obj}(h:x.heap[b]? =some o)(hb:x.grownBy y (some c))(a:b≠c):y.heap[b]? =some o:=by
 rw[hb.block _ (af h) (by simpa using a)];exact h
theorem GU(w:World)(b a:Nat)(h:bg w b []):
  Calls prog 55 #[.pointer (some ⟨b,0,none⟩),.int .i64 a] w λe w'=>Reads w b [] none e w':=by
 have g:=h.lt;have i:w.heap.size≠b:=by omega
 have m:fT 0 (ByteArray.mk #[]).toList=false:=by rw[ByteArray.toList_eq];rfl
 have j:=h;clear h;go_enter Tryz.func55,Tryz.ntmps55
 go_wp2_with(first
  |(go_at_call 101;refine(zh _ _ (j.alloc _)).mono ?_;rintro e w2 ⟨rfl,hb2⟩;have c:=bX (bI w _) hb2)
  |(go_at_call 103;refine(lU _ _ _).mono ?_;rintro e k ⟨rfl,hb3⟩;have d:=bX (dD c _) hb3;obtain⟨⟨z0,l,z2,z3⟩,f0,f1,f2,f3⟩:=bB d))
 have f:w.grownBy k (some b):=aD (aO (aD (aO (fw w _) _) (bz hb2 _)) _) (bz hb3 _);refine bodyPost_ret (v:=.tuple #[.agg #[.int .i64 0,.string ⟨#[]⟩,.bool false,.slice none 0 0],.bool false]) (by simp[results,Tryz.results55,go_sem,z0,l,z2,z3]) rfl ⟨?_,.inl ⟨rfl,rfl⟩⟩
 repeat(refine cZ ?_ (le_refl _) _ _)
 exact f
theorem MS(w:World)(c f:Nat)(t:Tk)(d:List Tk)(h:bg w c (t::d))(p:¬t.1=1):
  Calls prog 55 #[.pointer (some ⟨c,0,none⟩),.int .i64 f] w λe w'=>Reads w c (t::d) (if fT t.1 t.2 then some (.mk t.1 t.2 false [],d)else none) e w':=by
 have n:=h.lt;have g:w.heap.size≠c:=by omega
 have s:(t.1==1)=false:=by simpa using p
 have q:=h;clear h p
 cases i:fT t.1 t.2 with
 |false=>
  have l:∀x:World,Calls prog 103 #[.agg #[.int .i64 t.1,.string (aa t.2)]] x λe w'=>e=.returned (.bool false)/\Below x.heap.size x w':=by
   intro x;rw[<-i,<-aj t.2];simpa only[aj]using lU t.1 (aa t.2) x
  clear i;go_enter Tryz.func55,Tryz.ntmps55
  go_wp2_with(first
   |(go_at_call 101;refine(kK _ _ t d (q.alloc _)).mono ?_;rintro e w2 ⟨rfl,hg2,hr2⟩;have a:=bY (bI w _) hg2 g)
   |(go_at_call 103;refine(l _).mono ?_;rintro e j ⟨rfl,hb3⟩;have b:=bX (dD a _) hb3;obtain⟨⟨z0,o,z2,z3⟩,f0,f1,f2,f3⟩:=bB b))
  have k:w.grownBy j (some c):=aD (aO (aD (aO (fw w _) _) hg2) _) (bz hb3 _);refine bodyPost_ret (v:=.tuple #[.agg #[.int .i64 0,.string ⟨#[]⟩,.bool false,.slice none 0 0],.bool false]) (by simp[results,Tryz.results55,go_sem,z0,o,z2,z3]) rfl ⟨?_,.inl ⟨rfl,rfl⟩⟩
  repeat(refine cZ ?_ (le_refl _) _ _)
  exact k
 |true=>
  have l:∀x:World,Calls prog 103 #[.agg #[.int .i64 t.1,.string (aa t.2)]] x λe w'=>e=.returned (.bool true)/\Below x.heap.size x w':=by
   intro x;rw[<-i,<-aj t.2];simpa only[aj]using lU t.1 (aa t.2) x
  clear i;go_enter Tryz.func55,Tryz.ntmps55
  go_wp2_with(first
   |(go_at_call 101;refine(kK _ _ t d (q.alloc _)).mono ?_;rintro e w2 ⟨rfl,hg2,hr2⟩;have a:=bY (bI w _) hg2 g)
   |(go_at_call 103;refine(l _).mono ?_;rintro e j ⟨rfl,hb3⟩;have b:=bX (dD a _) hb3;have m:=bX (bI w2 _) hb3;obtain⟨⟨z0,o,z2,z3⟩,f0,f1,f2,f3⟩:=bB b;obtain⟨⟨u,y⟩,_,_⟩:=NT m))
  have k:w.grownBy j (some c):=aD (aO (aD (aO (fw w _) _) hg2) _) (bz hb3 _);have r:bg j c d:=(hr2.alloc _).below hb3;refine bodyPost_ret (v:=.tuple #[.agg #[.int .i64 t.1,.string (aa t.2),.bool false,.slice none 0 0],.bool true]) (by simp[results,Tryz.results55,go_sem,z0,o,z2,z3]) rfl ⟨?_,.inr ⟨_,_,_,_,_,_,_,d,rfl,by simp,rfl, ?_,lh.leaf _ _ _ _ _⟩⟩
  ·repeat(refine cZ ?_ (le_refl _) _ _)
   exact k
  ·repeat(refine bg.setCell ?_ n _ _)
   exact r
theorem MU(f:Nat)(G:Nk f)(w:World)(c a:Nat)(t:Tk)(b:List Tk)(h:bg w c (t::b))(I:2*b.length+1<=f)(s:b.length<=400)(O:a<=21)(A:t.1=1):
  Calls prog 55 #[.pointer (some ⟨c,0,none⟩),.int .i64 a] w λe w'=>Reads w c (t::b) (DL f (a+1) b) e w':=by
 have u:=h.lt;have j:w.heap.size≠c:=by omega
 have H:(t.1==1)=true:=by simpa using A
 have J:=h;clear h A;have C:∀x:World,bg x c b->Calls prog 102 #[.pointer (some ⟨c,0,none⟩),.int .i64 (a+1)] x λe w'=>Reads x c b (DL f (a+1) b) e w':=
  λx m=>G x c (a+1) b m I s (by omega)
 go_enter Tryz.func55,Tryz.ntmps55
 go_wp2_with(first
  |(go_at_call 101;refine(kK _ _ t b (J.alloc _)).mono ?_;rintro e w2 ⟨rfl,hg2,hr2⟩;have i:=bY (bI w _) hg2 j)
  |(go_at_call 102;refine(C _ (hr2.alloc _)).mono ?_))
 rintro e N ⟨d,hres⟩;have q:=bY (dD i _) d j;obtain⟨⟨z0,B,z2,z3⟩,f0,f1,f2,f3⟩:=bB q;have L:=af i;have z:w.grownBy N (some c):=aD (aO (aD (aO (fw w _) _) hg2) _) d;rcases hres with⟨l,rfl⟩|⟨k,M,F,E,n,cap,x,r,l,K,rfl,y,m⟩
 ·have o:Hid (DL f (a+1) b=none):=l;clear l
  go_wp2
  refine bodyPost_ret (v:=.tuple #[.agg #[.int .i64 0,.string ⟨#[]⟩,.bool false,.slice none 0 0],.bool false]) (by simp[results,Tryz.results55,go_sem,z0,B,z2,z3]) rfl ⟨?_,.inl ⟨o.out,rfl⟩⟩
  repeat(refine cZ ?_ (le_refl _) _ _)
  exact z
 ·have o:Hid (DL f (a+1) b=some (x,r)):=l;have D:Hid _:=m;clear l m
  go_wp2
  refine bodyPost_ret (v:=.tuple #[.agg #[.int .i64 k,.string (aa M),.bool F,.slice E n cap],.bool true]) (by simp[results,Tryz.results55,go_sem,z0,B,z2,z3]) rfl ⟨?_,.inr ⟨_,_,_,_,_,_,x,r,o.out,by simp;omega,rfl, ?_,D.out.move (λg p=> ?_) (λg p=> ?_)⟩⟩
  ·repeat(refine cZ ?_ (le_refl _) _ _)
   exact z
  ·repeat(refine bg.setCell ?_ u _ _)
   exact y
  ·simp at p
   repeat rw[heap_setCell _ _ _ _ (by show g≠w.heap.size;omega)]
  ·simp at p;show w.heap.size<=g;omega
theorem En(w:World)(c b:Nat)(h:bg w c []):
  Calls prog 102 #[.pointer (some ⟨c,0,none⟩),.int .i64 b] w λe w'=>Reads w c [] none e w':=by
 have k:=h.lt;have l:w.heap.size≠c:=by omega
 have n:ku 0 []=false:=by rfl
 have j:=h;clear h;by_cases o:b<=20
 ·go_enter Tryz.func102,Tryz.ntmps102
  go_wp2_with(first
   |(go_at_call 101;refine(zh _ _ (j.alloc _)).mono ?_;rintro e w2 ⟨rfl,hb2⟩;have a:=bX (bI w _) hb2)
   |(go_at_call 173;refine(sV _ _ _).mono ?_;rintro e m ⟨rfl,hb3⟩;have f:=bX (dD a _) hb3;obtain⟨⟨z0,i,z2,z3⟩,f0,f1,f2,f3⟩:=bB f))
  have d:w.grownBy m (some c):=aD (aO (aD (aO (fw w _) _) (bz hb2 _)) _) (bz hb3 _);refine bodyPost_ret (v:=.tuple #[.agg #[.int .i64 0,.string ⟨#[]⟩,.bool false,.slice none 0 0],.bool false]) (by simp[results,Tryz.results102,go_sem,z0,i,z2,z3]) rfl ⟨?_,.inl ⟨rfl,rfl⟩⟩
  repeat(refine cZ ?_ (le_refl _) _ _)
  exact d
 ·go_enter Tryz.func102,Tryz.ntmps102
  go_wp2_with(first
   |(go_at_call 101;refine(zh _ _ (j.alloc _)).mono ?_;rintro e w2 ⟨rfl,hb2⟩;have a:=bX (bI w _) hb2;have g:=af a;obtain⟨⟨z0,i,z2,z3⟩,f0,f1,f2,f3⟩:=bB a))
  have d:w.grownBy w2 (some c):=aD (aO (fw w _) _) (bz hb2 _);refine bodyPost_ret (v:=.tuple #[.agg #[.int .i64 0,.string ⟨#[]⟩,.bool false,.slice none 0 0],.bool false]) (by simp[results,Tryz.results102,go_sem,z0,i,z2,z3,g]) rfl ⟨?_,.inl ⟨rfl,rfl⟩⟩;refine aO ?_ _
  repeat(refine cZ ?_ (le_refl _) _ _)
  exact d
theorem wE(w:World)(d a:Nat)(t:Tk)(g:List Tk)(h:bg w d (t::g))(b:20<a\/ku t.1 t.2=false):
  Calls prog 102 #[.pointer (some ⟨d,0,none⟩),.int .i64 a] w λe w'=>Reads w d (t::g) none e w':=by
 have p:=h.lt;have f:w.heap.size≠d:=by omega
 have n:=h;clear h;by_cases r:a<=20
 ·have m:ku t.1 t.2=false:=by rcases b with h|h;omega;exact h
  have o:∀x:World,Calls prog 173 #[.agg #[.int .i64 t.1,.string (aa t.2)]] x λe w'=>e=.returned (.bool false)/\Below x.heap.size x w':=by
   intro x;rw[<-m,<-aj t.2];simpa only[aj]using sV t.1 (aa t.2) x
  clear m b;go_enter Tryz.func102,Tryz.ntmps102
  go_wp2_with(first
   |(go_at_call 101;refine(kK _ _ t g (n.alloc _)).mono ?_;rintro e w2 ⟨rfl,hg2,hr2⟩;have c:=bY (bI w _) hg2 f)
   |(go_at_call 173;refine(o _).mono ?_;rintro e q ⟨rfl,hb3⟩;have j:=bX (dD c _) hb3;obtain⟨⟨z0,l,z2,z3⟩,f0,f1,f2,f3⟩:=bB j))
  have i:w.grownBy q (some d):=aD (aO (aD (aO (fw w _) _) hg2) _) (bz hb3 _);refine bodyPost_ret (v:=.tuple #[.agg #[.int .i64 0,.string ⟨#[]⟩,.bool false,.slice none 0 0],.bool false]) (by simp[results,Tryz.results102,go_sem,z0,l,z2,z3]) rfl ⟨?_,.inl ⟨rfl,rfl⟩⟩
  repeat(refine cZ ?_ (le_refl _) _ _)
  exact i
 ·clear b;go_enter Tryz.func102,Tryz.ntmps102
  go_wp2_with(first
   |(go_at_call 101;refine(kK _ _ t g (n.alloc _)).mono ?_;rintro e w2 ⟨rfl,hg2,hr2⟩;have c:=bY (bI w _) hg2 f;have k:=af c;obtain⟨⟨z0,l,z2,z3⟩,f0,f1,f2,f3⟩:=bB c))
  have i:w.grownBy w2 (some d):=aD (aO (fw w _) _) hg2;refine bodyPost_ret (v:=.tuple #[.agg #[.int .i64 0,.string ⟨#[]⟩,.bool false,.slice none 0 0],.bool false]) (by simp[results,Tryz.results102,go_sem,z0,l,z2,z3,k]) rfl ⟨?_,.inl ⟨rfl,rfl⟩⟩;refine aO ?_ _
  repeat(refine cZ ?_ (le_refl _) _ _)
  exact i
theorem OG:(Tryz.prog.info? 96).map (λi=>(i.zero,i.size,i.bytes))=some (some (.agg #[.int .i64 0,.string ⟨#[]⟩,.bool false,.slice none 0 0]),4,56):=by kernel_rfl
def mi(w:World)(rb:Nat):Nat:=match w.cell? ⟨rb,0,none⟩with|some (.slice _ n _)=>n|_=>0
theorem bg.mi{w:World}{a:Nat}{b:List Tk}(h:bg w a b):mi w a=b.length:=by
 obtain⟨v,hb,h⟩:=h;have c:w.cell? ⟨a,0,none⟩=some v:=by simp[cell?,hb]
 rcases h with⟨rfl,e,cap,rfl⟩|⟨g,d,cap,rfl,_⟩<;>simp[YtdifpeaklamhnaaGreatDoor.mi,c]
theorem OU(o:Option (List Tr × List Tk))(a:List Tr)(x:Tr):(o.map (λp=>(x::p.1,p.2))).map (λp=>(a++p.1,p.2))=o.map (λp=>((a++ [x])++p.1,p.2)):=by
 cases o<;>simp
theorem Ie{x:World}{b:Nat}{a0 a1 a2 a3:Value}{T:TypeId}(h:x.heap[b]? =some (.cells #[a0,a1,a2,a3] T (0,0)))(v:Value):(x.setCell ⟨b,3,none⟩ v).heap[b]? =some (.cells #[a0,a1,a2,v] T (0,0)):=by
 simp[setCell,Array.getElem?_modify,h]
def Kc(g deep:Nat)(o:Option (Tr × List Tk)):Option (List Tr × List Tk):=
 match o with
 |none=>none
 |some (x,r')=>(lH g deep r').map (λp=>(x::p.1,p.2))
theorem Cr(f:Nat)(hT:∀I,I<f->yu I)(w:World)(l a:Nat)(t:Tk)(A:List Tk)(h:bg w l (t::A))(hl:2*A.length+1<=f)(b8:A.length<=400)
  (hd:a<=20) (hA:ku t.1 t.2=true):
  Calls prog 102 #[.pointer (some ⟨l,0,none⟩),.int .i64 a] w λe w'=>Reads w l (t::A) ((lH f a A).map (λp=>(.mk t.1 t.2 true p.1,p.2))) e w':=by
 obtain⟨i0,hi,a9,b0,b1⟩:=info_parts OG;have a3:=h.lt;have Q:w.heap.size≠l:=by omega
 have hr:=h;clear h;have HS:∀x:World,Calls prog 173 #[.agg #[.int .i64 t.1,.string (aa t.2)]] x λe w'=>e=.returned (.bool true)/\Below x.heap.size x w':=by
  intro x;rw[<-hA,<-aj t.2];simpa only[aj]using sV t.1 (aa t.2) x
 clear hA;go_enter Tryz.func102,Tryz.ntmps102
 go_wp2_with(first
  |(go_at_call 101;refine(kK _ _ t A (hr.alloc _)).mono ?_;rintro e w2 ⟨rfl,hg2,hr2⟩;have O:=bY (bI w _) hg2 Q)
  |(go_at_call 173;refine(HS _).mono ?_;rintro e C ⟨rfl,hb3⟩;have a2:=bX (dD O _) hb3;have P:=bX (bI w2 _) hb3;obtain⟨⟨y0,y1⟩,_,_⟩:=NT P))
 have b9:=af O;have c6:=af P;have G3:w.grownBy C (some l):=aD (aO (aD (aO (fw w _) _) hg2) _) (bz hb3 _);have R3:bg C l A:=(hr2.alloc _).below hb3;clear hg2 hr2 hb3 O P y0 y1 HS hr;obtain⟨Tb,b2⟩:∃Tb,Tb=C.heap.size:=⟨_,rfl⟩;go_loopw [22] (λ_ wr=>∃(I:Nat) (F:List Tr) (rest:List Tk) (M:Option Addr) (n cap:Nat) (cs:List Value),I<=f/\2*rest.length+1<=I/\F.length+rest.length<=A.length/\
   Hid (lH f a A=(lH I a rest).map (λp=>(F++p.1,p.2)))/\bg wr l rest/\w.grownBy wr (some l)/\
   wr.heap[w.heap.size]? =some (.cells #[.int .i64 0,.string ⟨#[]⟩,.bool false,.slice none 0 0] 96 (0,0))/\
   wr.heap[C.heap.size]? =some (.cells #[.int .i64 t.1,.string (aa t.2),.bool true,.slice M n cap] 96 (0,0))/\
   wr.ownsRow (C.heap.size+1) 96 4 (.slice M n cap) F.length cs/\gD wr (λg=>C.heap.size<g/\(slice M n cap).ownBlock≠some g) cs F)
  (λ_ wr=>mi wr l)
 case atStart=>exact⟨f,[],A,none,0,0,[],le_refl _,hl,by simp,by rw[Hid];simp,R3.alloc _,aO G3 _,dD a2 _,bI C _,World.ownsRow_nil _ _ _ _,.nil⟩
 case round=>
  obtain⟨I,F,rest,M,n,cap,cs,b6,b7,a8,HO,K,J,D,E,d,T⟩:=hrel;obtain⟨g,rfl⟩:∃g,I=g+1:=⟨I- 1,by omega⟩;have a0:=af E;have a5:=af D;by_cases L:∃c r,rest=c::r/\c.1=2
  ·obtain⟨c,r,rfl,X⟩:=L;have U:Hid (lH f a A=some (F,r)):=by rw[Hid,HO.out,lH,if_pos X];simp
   clear HO
   go_wp2_with(go_at_call 174;refine(Ik _ _ c r K X).mono ?_;rintro e w5 ⟨rfl,i,R⟩;have o:=bY D i Q;have s:=bY E i (by omega);obtain⟨⟨z0,z1,z2,z3⟩,f0,f1,f2,f3⟩:=bB o;obtain⟨⟨y0,y1,y2,y3⟩,_⟩:=bB s)
   have b5:=J.size;refine bodyPost_ret (v:=.tuple #[.agg #[.int .i64 t.1,.string (aa t.2),.bool true,.slice M n cap],.bool true]) (by simp[results,Tryz.results102,go_sem,z0,z1,z2,z3]) rfl ⟨?_,.inr ⟨_,_,_,_,_,_,.mk t.1 t.2 true F,r,by rw[U.out];rfl,by simp at a8 ⊢;omega,rfl, ?_, ?_⟩⟩
   ·repeat(refine cZ ?_ (le_refl _) _ _)
    exact aD J i
   ·repeat(refine bg.setCell ?_ a3 _ _)
    exact R
   ·refine .mk (cs:=cs) (T.bounded.move (λg N=> ?_) (λg N=>by have:=N.1.1;omega)) (kL (b:=C.heap.size+1) (aA d λg N=> ?_) (λ_ _=>Nat.zero_le _)) (λg N=>by have:=(d.lt g N).1;omega)
    ·have h1:=N.1.1
     repeat rw[heap_setCell _ _ _ _ (by show g≠w.heap.size;omega)]
     exact i.block g N.2 (by simp;omega)
    ·have h1:=d.lt g N
     repeat rw[heap_setCell _ _ _ _ (by show g≠w.heap.size;omega)]
     exact i.block g h1.2 (by simp;omega)
  ·have HC:∀x:World,bg x l rest->Calls prog 174 #[.pointer (some ⟨l,0,none⟩)] x λe w'=>e=.returned (.bool false)/\x=w':=by
    intro x S
    cases rest with
    |nil=>exact(Ij x l S).mono λe w' h=>⟨h.1,h.2.symm⟩
    |cons c r=>exact(Lg x l c r S (λe=>L ⟨c,r,rfl,e⟩)).mono λe w' h=>⟨h.1,h.2.symm⟩
   have G:Hid (lH f a A=(Kc g a (gX g a rest)).map (λp=>(F++p.1,p.2))):=by
    rw[Hid,HO.out]
    cases rest with
    |nil=>rw[lH];cases g<;>rfl
    |cons c r=>rw[lH,if_neg (λe=>L ⟨c,r,rfl,e⟩)];rfl
   clear HO L;have HT:∀x:World,bg x l rest->Calls prog 55 #[.pointer (some ⟨l,0,none⟩),.int .i64 a] x λe w'=>Reads x l rest (gX g a rest) e w':=
    λx S=>hT g (by omega) x l a rest S (by omega) (by omega) (by omega)
   go_wp2_with(first
    |(go_at_call 174;refine(HC _ K).mono ?_;rintro e w4 ⟨rfl,rfl⟩)
    |(go_at_call 55;refine(HT _ K).mono ?_))
   rintro e w5 ⟨i,hres⟩;have o:=bY D i Q;have s:=bY E i (by omega);have Z:=af o;have b3:=af s;obtain⟨⟨z0,z1,z2,z3⟩,f0,f1,f2,f3⟩:=bB o;obtain⟨⟨y0,y1,y2,y3⟩,x0,x1,x2,x3⟩:=bB s;rcases hres with⟨Y,rfl⟩|⟨k,tx,br,a1,n5,V,x,r,Y,a4,rfl,R,S⟩
   ·have U:Hid (lH f a A=none):=by rw[Hid,G.out,Y];rfl
    clear Y G HC HT
    go_wp2
    refine bodyPost_ret (v:=.tuple #[.agg #[.int .i64 0,.string ⟨#[]⟩,.bool false,.slice none 0 0],.bool false]) (by simp[results,Tryz.results102,go_sem,z0,z1,z2,z3,Z]) rfl ⟨?_,.inl ⟨by rw[U.out];rfl,rfl⟩⟩;refine aO ?_ _
    repeat(refine cZ ?_ (le_refl _) _ _)
    exact aD J i
   ·have U:Hid (lH f a A=(lH g a r).map (λp=>((F++ [x])++p.1,p.2))):=by rw[Hid,G.out,Y,Kc,OU]
    clear Y G HC HT;have HX:Hid _:=S;clear S
    go_wp2_with(at_builtin;refine wpList_append_own_at _ rfl (.tmp 35) (.tmp 37) 94 rfl (C.heap.size+1) 96 i0 (.agg #[.int .i64 0,.string ⟨#[]⟩,.bool false,.slice none 0 0]) 4 56 Tryz.underlying94 hi a9 b0 b1 rfl (by decide) _ _ _ rfl ((aA d (x:=w5) ?c0).alloc _ |>.alloc _) ⟨w5.heap.size+1,0,none⟩ 1 1 [.int .i64 k,.string (aa tx),.bool br,.slice a1 n5 V] rfl rfl ?c1 ?c2 ?c3 ?c4 ?c5 ?_)
    case c0=>intro q hq;have h1:=d.lt q hq;exact i.block q h1.2 (by simp;omega)
    case c1=>
     intro j u B
     match j,B with
     |0,B=>simp at B;subst B;simp[add]
     |1,B=>simp at B;subst B;simp[add]
     |2,B=>simp at B;subst B;simp[add]
     |3,B=>simp at B;subst B;simp[add]
    case c2=>intro u hu;simp at hu;rcases hu with rfl|rfl|rfl|rfl<;>rfl
    case c3=>unfold maxLen;omega
    case c4=>omega
    case c5=>simp;omega
    ·intro v' w6 z y _ W;obtain⟨H,n',m,rfl⟩:∃H n' m,v'=.slice H n' m:=by
      rcases z.2 with⟨e,_⟩|⟨q,m,b4,e,_⟩
      ·exact⟨_,_,_,e⟩
      ·exact⟨_,_,_,e⟩
     have a7:(slice M n cap).ownBlock≠some C.heap.size:=λe=>by have:=(d.lt _ e).1;omega
     have a6:(slice M n cap).ownBlock≠some w.heap.size:=λe=>by have:=(d.lt _ e).1;omega
     obtain⟨S1,S2,S3,S4⟩:=Pm _ _ (by omega) a0 d T i HX.out z y (by simpa using W);have kT:w6.heap[C.heap.size]? =_:=(S3 _ a0 (by omega) a7).trans E;have kA:w6.heap[w.heap.size]? =_:=(S3 _ a5 (by omega) a6).trans D;have R6:bg w6 l r:=R.ah λq hq=>S4 q (by omega) (λe=>by have:=(d.lt _ e).1;omega);have G6:w.grownBy w6 (some l):=by
      refine Oy J i (row:=(slice M n cap).ownBlock) ?_ y (λq e=>by have:=(d.lt _ e).1;omega) S3;exact⟨rfl,rfl,rfl,by simp;omega⟩
     have M6:Hid (mi wr l=rest.length):=K.mi;have c7:=kA;obtain⟨⟨u0,u1,u2,u3⟩,v0,v1,v2,v3⟩:=bB kT;clear z y W d T HX D E o s z0 z1 z2 z3 f0 f1 f2 f3 y0 y1 y2 y3 x0 x1 x2 x3
     go_wp2
     go_roundw
     case rel=>exact⟨g,F++ [x],r,H,n',m,_,by omega,by omega,by simp;omega,U,R6.setCell (by omega) _ _,cZ G6 (by omega) _ _,(heap_setCell _ _ _ _ (by show w.heap.size≠C.heap.size;omega)).trans kA,Ie kT _,S2,S1⟩
     case measure=>show mi _ l<mi wr l;rw[M6.out,(R6.setCell (b:=C.heap.size) (by omega) 3 (.slice H n' m)).mi];exact a4
theorem Em(f:Nat)(j:∀d,d<f->yu d):Nk f:=by
 intro w g b c h k i l
 cases f with
 |zero=>omega
 |succ f=>
  cases c with
  |nil=>rw[DL];exact En w g b h
  |cons t c=>
   simp only[List.length_cons]at k i;by_cases a:20<b
   ·rw[DL,if_pos a];exact wE w g b t c h (.inl a)
   ·cases e:ku t.1 t.2 with
    |false=>rw[DL,if_neg a,e];exact wE w g b t c h (.inr e)
    |true=>rw[DL,if_neg a,e,if_pos rfl];exact Cr f (λd h=>j d (by omega)) w g b t c h (by omega) (by omega) (by omega) e
theorem PZ(f:Nat):yu f:=by
 induction f using Nat.strongRecOn with
 |ind f ih=>
  intro w d a b h j e i
  cases f with
  |zero=>
   have:b= []:=List.length_eq_zero_iff.mp (by omega);subst this;rw[gX];exact GU w d a h
  |succ f=>
   cases b with
   |nil=>rw[gX];exact GU w d a h
   |cons t b=>
    simp only[List.length_cons]at j e;by_cases c:t.1=1
    ·rw[gX,if_pos c];exact MU f (Em f λg h=>ih g (by omega)) w d a t b h (by omega) (by omega) i c
    ·rw[gX,if_neg c];exact MS w d a t b h c
def ik(ts:List Tk):Option Tr:=match gX (2*ts.length) 0 ts with|some (t,[])=>some t|_=>none
def jw(l:Bs):Option Tr:=if 400<l.length then none else(bE l).bind ik
theorem PG{w:World}{b:Nat}{v:Value}{c:List Tk}(h:w.ownsRow b 93 2 v c.length (df c)):bg (w.alloc (.cells #[v] 170)) w.heap.size c:=by
 refine⟨v,bI w _, ?_⟩;rcases h.2 with⟨rfl,e⟩|⟨g,cap,d,rfl,_,f,l,k,m,n⟩
 ·exact .inl ⟨List.length_eq_zero_iff.mp e,_,_,rfl⟩
 ·have a:=af f;refine .inr ⟨g,0,cap,rfl,a,l,k,λj u i=> ?_⟩;rw[cell?_of_block (w:=w) (heap_alloc _ _ _ a)];have:=h.cells (g:=g) rfl j u i;rw[Addr.add_lit]at this;exact this
theorem Ej{B:Nat}{a x y:World}{c:Nat}(h:Below B a x)(b:x.grownBy y (some c))(d:B<=c)(f:B<=x.heap.size):Below B a y:=
 h.trans ⟨b.os,b.tape,b.output,b.size,λk e=>b.block k (by omega) (by simp;omega)⟩
theorem bg.cell{w:World}{a:Nat}{d:List Tk}(h:bg w a d):∃b cap,w.cell? ⟨a,0,none⟩=some (.slice b d.length cap):=by
 obtain⟨v,hb,h⟩:=h;have c:w.cell? ⟨a,0,none⟩=some v:=by simp[cell?,hb]
 rcases h with⟨rfl,b,cap,rfl⟩|⟨g,e,cap,rfl,_⟩
 ·exact⟨_,_,c⟩
 ·exact⟨_,_,c⟩
def Ht(w:World)(o:Option Tr)(e:Ending)(w':World):Prop:=
 Below w.heap.size w w'/\
  ((o=none/\e=.returned (.tuple #[.agg #[.int .i64 0,.string ⟨#[]⟩,.bool false,.slice none 0 0],.int .i64 1]))\/
   (∃k tx br ao n cap t,o=some t/\e=.returned (.tuple #[.agg #[.int .i64 k,.string (aa tx),.bool br,.slice ao n cap],.int .i64 0])/\
    lh w' (λg=>w.heap.size<=g) [.int .i64 k,.string (aa tx),.bool br,.slice ao n cap] t))
theorem ry{B:Nat}{a w:World}(h:Below B a w){b:Nat}(hb:B<=b)(o:Nat)(v:Value):Below B a (w.setCell ⟨b,o,none⟩ v):=h.setCell (p:=⟨b,o,none⟩) hb v
theorem IV(s:ByteArray)(w:World)(a:s.size<=maxLen)(b:400<s.size):
  Calls prog 20 #[.string s] w λe w'=>Ht w none e w':=by
 unfold maxLen at a;go_enter Tryz.func20,Tryz.ntmps20
 go_wp2_with fail
 exact bodyPost_ret (v:=.tuple #[.agg #[.int .i64 0,.string ⟨#[]⟩,.bool false,.slice none 0 0],.int .i64 1]) (by simp[results,Tryz.results20,go_sem]) rfl ⟨(refl _ _).alloc (le_refl _) _,.inl ⟨rfl,rfl⟩⟩
theorem FT(s:ByteArray)(w:World)(S:s.size<=400):
  Calls prog 20 #[.string s] w λe w'=>Ht w ((bE s.toList).bind ik) e w':=by
 go_enter Tryz.func20,Tryz.ntmps20
 go_wp2_with(go_at_call 54;refine(PI s _ S).mono ?_)
 rintro e w2 ⟨o,hres⟩;have i:=bX (bI w _) o;have U:=af i;have G:Below w.heap.size w w2:=((refl _ _).alloc (le_refl _) _).trans (o.mono (by simp));obtain⟨⟨z0,u,z2,z3⟩,f0,f1,f2,f3⟩:=bB i;rcases hres with⟨a,rfl⟩|⟨d,v,a,D,rfl,b⟩
 ·have l:Hid ((bE s.toList).bind ik=none):=by rw[Hid,a];rfl
  clear a
  go_wp2_with fail
  refine bodyPost_ret (v:=.tuple #[.agg #[.int .i64 0,.string ⟨#[]⟩,.bool false,.slice none 0 0],.int .i64 1]) (by simp[results,Tryz.results20,go_sem,z0,u,z2,z3]) rfl ⟨?_,.inl ⟨l.out,rfl⟩⟩
  repeat(refine ry ?_ (le_refl _) _ _)
  exact G
 ·have l:Hid ((bE s.toList).bind ik=ik d):=by rw[Hid,a];rfl
  clear a;obtain⟨L,W,H,rfl⟩:∃B n cap,v=.slice B n cap:=by
   rcases b.2 with⟨e,_⟩|⟨q,cap,P,e,_⟩
   ·exact⟨_,_,_,e⟩
   ·exact⟨_,_,_,e⟩
  have R:=PG b;clear b;have y:∀x:World,bg x w2.heap.size d->Calls prog 55 #[.pointer (some ⟨w2.heap.size,0,none⟩),.int .i64 0] x λe w'=>Reads x w2.heap.size d (gX (2*d.length) 0 d) e w':=
   λx t=>PZ (2*d.length) x w2.heap.size 0 d t (by omega) D (by omega)
  go_wp2_with(go_at_call 55;refine(y _ R).mono ?_)
  rintro e F ⟨h,hres⟩;have p:=bY (dD i _) h (by omega);have j:=af p;obtain⟨⟨z0,u,z2,z3⟩,f0,f1,f2,f3⟩:=bB p;have A:Below w.heap.size w F:=Ej (G.alloc (by omega) _) h (by omega) (by simp;omega);rcases hres with⟨a,rfl⟩|⟨k,V,N,B,n,cap,x,r,a,T,rfl,E,t⟩
  ·have m:Hid (ik d=none):=by rw[Hid,ik,a]
   clear a y
   go_wp2_with fail
   refine bodyPost_ret (v:=.tuple #[.agg #[.int .i64 0,.string ⟨#[]⟩,.bool false,.slice none 0 0],.int .i64 1]) (by simp[results,Tryz.results20,go_sem,z0,u,z2,z3,j]) rfl ⟨?_,.inl ⟨by rw[l.out,m.out],rfl⟩⟩;refine alloc ?_ (by simp[setCell];omega) _
   repeat(refine ry ?_ (le_refl _) _ _)
   exact A
  ·obtain⟨M,O,f⟩:=E.cell;have C:=h.size;simp only[World.size_alloc]at C;have J:w2.heap.size<F.heap.size:=by omega
   cases r with
   |nil=>
    have m:Hid (ik d=some x):=by rw[Hid,ik,a]
    have K:Hid _:=t;clear a y t;simp only[List.length_nil]at f
    go_wp2_with fail
    refine bodyPost_ret (v:=.tuple #[.agg #[.int .i64 k,.string (aa V),.bool N,.slice B n cap],.int .i64 0]) (by simp[results,Tryz.results20,go_sem,z0,u,z2,z3,j]) rfl ⟨?_,.inr ⟨_,_,_,_,_,_,x,by rw[l.out,m.out],rfl,K.out.bounded.move (λg z=> ?_) (λg z=>by have:=z.1;simp at this;omega)⟩⟩
    ·refine alloc ?_ (by simp[setCell];omega) _
     repeat(refine ry ?_ (le_refl _) _ _)
     exact A
    ·have Q:=z.1;simp at Q;rw[heap_alloc _ _ _ (by simp[setCell];exact z.2)]
     repeat rw[heap_setCell _ _ _ _ (by show g≠w.heap.size;omega)]
   |cons c r=>
    have m:Hid (ik d=none):=by rw[Hid,ik,a]
    have I:F.cell? ⟨w2.heap.size,0,none⟩=some (.slice M (r.length+1) O):=f;clear a y t f
    go_wp2_with fail
    refine bodyPost_ret (v:=.tuple #[.agg #[.int .i64 0,.string ⟨#[]⟩,.bool false,.slice none 0 0],.int .i64 1]) (by simp[results,Tryz.results20,go_sem,z0,u,z2,z3,j]) rfl ⟨?_,.inl ⟨by rw[l.out,m.out],rfl⟩⟩;refine alloc ?_ (by simp[setCell];omega) _
    repeat(refine ry ?_ (le_refl _) _ _)
    exact A
theorem Mq(s:ByteArray)(w:World)(b:s.size<=maxLen):
  Calls prog 20 #[.string s] w λe w'=>Ht w (jw s.toList) e w':=by
 unfold jw;rw[ai];by_cases a:400<s.size
 ·rw[if_pos a];exact IV s w b a
 ·rw[if_neg a];exact FT s w (by omega)
theorem Ko:(Tryz.prog.info? 176).map (·.size)=some 2:=by kernel_rfl
theorem Rk:liesAt prog Tryz.prog.depth 176 (2 / Tryz.prog.cellsOf 176) 0 176 1=true:=by kernel_rfl
theorem infoByte:(Tryz.prog.info? 5).map (λi=>(i.zero,i.size,i.bytes))=some (some (.int .u8 0),1,1):=by kernel_rfl
theorem yK(b:Nat)(w:World)(c:w.cell? ⟨b,0,none⟩=some (.pointer (some ⟨b,0,none⟩))):
  Calls prog 176 #[.pointer (some ⟨b,0,none⟩)] w λe w'=>e=.returned (.tuple #[])/\w'=w:=by
 obtain⟨j,a,_⟩:=Option.map_eq_some_iff.1 Ko;go_enter Tryz.func176,Tryz.ntmps176
 go_wp2
 rw[Lib.run_neq_ptr_same w _ Tryz.underlying173 a]
 go_wp2
 go_end0
 exact⟨rfl,rfl⟩
theorem xH(b:Nat)(w:World)(g:w.cell? ⟨b,0,none⟩=some (.pointer none))(a:w.shape? b=some (176,2))(f:w.frozen? ⟨b,0,none⟩=false):
  Calls prog 176 #[.pointer (some ⟨b,0,none⟩)] w λe w'=>e=.returned (.tuple #[])/\w'=w.setCell ⟨b,0,none⟩ (.pointer (some ⟨b,0,none⟩)):=by
 obtain⟨j,d,c⟩:=Option.map_eq_some_iff.1 Ko;go_enter Tryz.func176,Tryz.ntmps176
 go_wp2
 rw[Lib.run_to_unsafe w ⟨b,0,none⟩ Tryz.underlying173 Tryz.underlying428 d (by rw[c];decide) a (Nat.zero_lt_succ 1)];simp only[Result.andThen];rw[Oper.upon_value]
 go_wp2
 rw[run_callFunc_extern Tryz.func239 (by kernel_rfl) (by kernel_rfl) (by kernel_rfl) (e:=Extern.AbiNoEscape.same) (by kernel_rfl)];rw[Lib.run_noEscape];simp only[Result.andThen];rw[Oper.upon_value]
 go_wp2
 rw[Lib.run_from_unsafe w ⟨b,0,none⟩ Tryz.underlying428 Tryz.underlying173 d a Rk];simp only[Result.andThen];rw[Oper.upon_value]
 go_wp2
 go_end0
 exact⟨rfl,rfl⟩
theorem EE(B b:Nat)(a:List Value)(w:World)(h:Lib.IsBuilderF 176 5 B b a w):
  Calls prog 176 #[.pointer (some ⟨b,0,none⟩)] w λe w'=>e=.returned (.tuple #[])/\(Lib.BuilderAtF 176 5 B b (.pointer (some ⟨b,0,none⟩)) a w'/\Below B w w'/\Lib.OthersKept 5 (some b) w w'):=by
 rcases h with h|h
 ·refine(xH b w h.cell0 h.shape h.frozen0).mono ?_;rintro e w' ⟨rfl,rfl⟩;exact⟨rfl,h.used _,(refl B w).setCell (p:=⟨b,0,none⟩) h.1 _,(Lib.OthersKept.refl _ _ w).setCell ⟨b,0,none⟩ rfl _⟩
 ·refine(yK b w h.cell0).mono ?_;rintro e w' ⟨rfl,rfl⟩;exact⟨rfl,h,refl B _,Lib.OthersKept.refl _ _ _⟩
theorem AB(B b:Nat)(j:List Value)(s:ByteArray)(w:World)(h:Lib.IsBuilderF 176 5 B b j w)(y:j.length+s.size<=140737488355328)(D:B<=w.heap.size):
  Calls prog 104 #[.pointer (some ⟨b,0,none⟩),.string s] w λe w'=>e=.returned (.tuple #[.int .i64 s.size,.nilIface])/\(Lib.BuilderAtF 176 5 B b (.pointer (some ⟨b,0,none⟩)) (j++Lib.strCells s) w'/\Below B w w'/\Lib.OthersKept 5 (some b) w w'):=by
 obtain⟨i0,E,o,q,r⟩:=info_parts infoByte;go_enter Tryz.func104,Tryz.ntmps104
 go_wp2_with(go_at_call 176;refine(EE B b j _ h).mono ?_)
 rintro e t ⟨rfl,h1,hb1,hk1⟩;obtain⟨x,v,i,c,m⟩:=h1;have G:t.cell? ⟨b,0,none⟩=some (.pointer (some ⟨b,0,none⟩)):=by rw[Lib.cell_of_heap i];rfl
 have H:t.cell? ⟨b,1,none⟩=some v:=by rw[Lib.cell_of_heap i];rfl
 go_wp2_with(at_builtin;refine Lib.wpList_append_own_stringF _ rfl _ _ 174 9 rfl B 5 i0 Tryz.underlying174 Tryz.underlying9 E o q r _ _ _ rfl c s rfl ?c3 ?c4 ?c5 ?_)
 case c3=>unfold maxLen;omega
 case c4=>omega
 case c5=>have:=hb1.size;omega
 intro v' w2 d a _;have l:b<t.heap.size:=af i;have f:w2.heap[b]? =some (.cells #[.pointer (some ⟨b,0,none⟩),v] 176 (0,0)):=by
  rw[a.block b l (λe=>m e.symm)];exact i
 have d0:w2.cell? ⟨b,0,none⟩=some (.pointer (some ⟨b,0,none⟩)):=by rw[Lib.cell_of_heap f];rfl
 have d1:w2.cell? ⟨b,1,none⟩=some v:=by rw[Lib.cell_of_heap f];rfl
 have f1:w2.frozen? ⟨b,1,none⟩=false:=Lib.frozen_of_heap f 1;obtain⟨u,z,cap,rfl⟩:∃u z cap,v'=.slice u z cap:=by
  rcases d.2 with⟨n,_⟩|⟨g,cap,C,I,n,_⟩
  ·exact⟨_,_,_,n⟩
  ·exact⟨_,_,_,n⟩
 go_wp2
 go_ret2;refine⟨rfl, ?_, ?_,(hk1.grown a (Lib.ownsRowF_kind c)).setCell ⟨b,1,none⟩ rfl _⟩
 ·exact Lib.BuilderAtF.put (T:=176) (e:=5) x f (bs':=j++Lib.strCells s) (by simpa[Lib.strCells_length]using d) (by decide)
 ·exact(hb1.grown a (by have:=hb1.size;omega) (λk F=>(c.lt k F).1)).setCell (p:=⟨b,1,none⟩) x _
end Go.Proofs.YtdifpeaklamhnaaGreatDoor
