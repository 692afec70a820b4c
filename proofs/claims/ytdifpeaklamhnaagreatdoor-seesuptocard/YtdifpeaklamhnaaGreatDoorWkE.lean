import Derived.Test.YtdifpeaklamhnaaGreatDoorWkFZ
import Derived.Deep.RegionHeld2
set_option linter.unusedVariables false
set_option linter.unusedSimpArgs false
set_option maxRecDepth 100000
set_option maxHeartbeats 0
namespace Go.Proofs.YtdifpeaklamhnaaGreatDoor
open Go.Proofs.Tryz
open Go.RowKit
theorem Li(w:World)(A B C:Obj):(((w.alloc A).alloc B).alloc C).drew.heap[w.heap.size+1+1]? =some C:=by
 have:=heap_alloc_new ((w.alloc A).alloc B) C;rw[World.size_alloc,World.size_alloc]at this;exact this
theorem Ti(w:World)(A B:Obj)(a b c:Int):
  Calls prog 230 #[.slice (some ⟨w.heap.size+1+1,0,none⟩) 3 3] (((w.alloc A).alloc B).alloc (.cells #[.int .i64 a,.int .i64 b,.int .i64 c] 3)).drew λe w'=>e=.returned (.int .i64 (aK [a,b,c]))/\w'=(((w.alloc A).alloc B).alloc (.cells #[.int .i64 a,.int .i64 b,.int .i64 c] 3)).drew:=by
 refine Lu _ (w.heap.size+1+1) 3 [a,b,c] (by simp) λj u d=> ?_;rw[af (Li w A B _)]
 match j,d with
 |0,d=>simp at d;subst d;rfl
 |1,d=>simp at d;subst d;rfl
 |2,d=>simp at d;subst d;rfl
theorem AP(l:Bs):(aa l).data.toList=l:=by simp[aa]
def Ce(x y:Int):Int:=Lib.compareInt x y
def NW(x y:Bs):Int:=Lib.compareBytes x y
theorem NZ(x y:Int)(w:World):Calls prog 284 #[.int .i64 x,.int .i64 y] w λe w'=>e=.returned (.int .i64 (Ce x y))/\w'=w:=Tryz.cmp_Compare_int x y w
theorem NY(x y:Bs)(w:World):Calls prog 322 #[.string (aa x),.string (aa y)] w λe w'=>e=.returned (.int .i64 (NW x y))/\w'=w:=by
 have:=Tryz.strings_Compare (aa x) (aa y) w;rw[AP,AP]at this;exact this
theorem QO(a b:aj)(w:World):
  Calls prog 283 #[.agg #[.int .i64 a.1,.int .i64 a.2.1,.string (aa a.2.2)],.agg #[.int .i64 b.1,.int .i64 b.2.1,.string (aa b.2.2)]] w λe w'=>e=.returned (.int .i64 (sK a b))/\Below w.heap.size w w':=by
 obtain⟨f,g,c⟩:=a;obtain⟨bk,h,d⟩:=b;simp only;have j:Hid (sK (f,g,c) (bk,h,d)=aK [Ce f bk,Ce g h,NW c d]):=rfl;obtain⟨r,k⟩:∃r,r=aK [Ce f bk,Ce g h,NW c d]:=⟨_,rfl⟩;have i:=Ti w (.cells #[.int .i64 f,.int .i64 g,.string (aa c)] 56) (.cells #[.int .i64 bk,.int .i64 h,.string (aa d)] 56) (Ce f bk) (Ce g h) (NW c d);rw[<-k]at i j;have l:Hid (Below w.heap.size w (((w.alloc (.cells #[.int .i64 f,.int .i64 g,.string (aa c)] 56)).alloc (.cells #[.int .i64 bk,.int .i64 h,.string (aa d)] 56)).alloc (.cells #[.int .i64 (Ce f bk),.int .i64 (Ce g h),.int .i64 (NW c d)] 3)).drew):=
  (((az w _ _).alloc (by simp[World.size_alloc];omega) _)).drew
 clear k;go_enter Tryz.func283,Tryz.ntmps283;go_upto_region 1 with fail
 go_region_held2 (λx=>x.cell? ⟨w.heap.size,0,none⟩=some (.int .i64 f)/\x.cell? ⟨w.heap.size,1,none⟩=some (.int .i64 g)/\x.cell? ⟨w.heap.size,2,none⟩=some (.string (aa c))/\x.cell? ⟨w.heap.size+1,0,none⟩=some (.int .i64 bk)/\x.cell? ⟨w.heap.size+1,1,none⟩=some (.int .i64 h)/\x.cell? ⟨w.heap.size+1,2,none⟩=some (.string (aa d))) (go_keep) (first
  |(go_at_call 284;refine(NZ _ _ _).mono ?_;rintro e w2 ⟨rfl,rfl⟩)
  |(go_at_call 322;refine(NY _ _ _).mono ?_;rintro e w2 ⟨rfl,rfl⟩)
  |(go_at_call 230;refine i.mono ?_;rintro e w2 ⟨rfl,rfl⟩))
 all_goals(go_wp2_with fail;go_ret)
 all_goals exact⟨by rw[j.out];rfl,l.out⟩
end Go.Proofs.YtdifpeaklamhnaaGreatDoor
