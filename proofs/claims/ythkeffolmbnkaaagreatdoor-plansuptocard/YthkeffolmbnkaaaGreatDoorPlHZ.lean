import Derived.Test.YthkeffolmbnkaaaGreatDoorWkFZ
import Derived.Deep.RegionHeld
set_option linter.unusedVariables false
set_option linter.unusedSimpArgs false
set_option maxRecDepth 100000
set_option maxHeartbeats 0
open Array renaming find?->D
open Bool renaming true->U,and_eq_true->Z,false->ι
open Go renaming method->M,receiverAt->H,yielded->γ,wpAnyH->ε,wpAnyH_take->η,follow->θ,execOp->κ
open Go.Addr renaming mk->V
open Go.Place renaming get->A
open Go.Proofs.Tryz renaming t393->G,prog->μ
open Go.Region renaming wanted->I,noSelect->α,ready->β,free->δ
open Go.Value renaming pointer->E
open Option renaming some->J,none->ζ
namespace Go.Proofs.YthkeffolmbnkaaaGreatDoor
open Go.Proofs.Tryz
open Go.RowKit
variable{b:Act}{f:Array Bool}{c:Array Oper}{g:Exit->Act->World->Prop}{d m n:Nat}{e:Oper}{l:Program}{i:Region.Mode}{k:Value}{a:World}{j:World->Prop}
theorem afX(v:c[d]? =J e)(t:e.dst=J m)(x:α c=U)(u:δ i c f d=U)(w:(β i c f).contains d=U)(r:∀p b a,g (.panic p) (b.put (J m) k) a->g (.panic p) b a)(y:(I e (γ c b.tmps)=U/\∀o,j o->(κ b.eval e).run l o=.ok (.value k) o)\/(I e (γ c b.tmps)=ι/\k=undef))(s:j a)(q:ε l i c g j n (f.setIfInBounds d U) (b.put (J m) k) a):ε l i c g j (n+1) f b a:=by
 rw[<-t]at r q;exact η v x u w r y s q
theorem tH(p m:Nat)(k:Value)(w:c[p]? =J e)(v:e.dst=J m)(o:(α c&&δ i c f p&&(β i c f).contains p)=U)(t:∀n b (m:Nat) (k:Value) a,g (.panic n) (b.put (J m) k) a->g (.panic n) b a)(u:j a)(r:ε l i c g j d (f.setIfInBounds p U) (b.put (J m) k) a)(x:(I e (γ c b.tmps)=U/\∀q,j q->(κ b.eval e).run l q=.ok (.value k) q)\/(I e (γ c b.tmps)=ι/\k=undef)):ε l i c g j (d+1) f b a:=by
 have s:=λn b a=>t n b m k a;rw[Z,Z]at o;rw[<-v]at s r;exact η w o.1.1 o.1.2 o.2 s x u r
theorem tG(m o:Nat)(n:Value)(v:c[m]? =J e)(u:e.dst=J o)(k:(α c&&δ i c f m&&(β i c f).contains m)=U)(s:∀q b a,g (.panic q) (b.put (J o) n) a->g (.panic q) b a)(t:j a)(r:ε l i c g j d (f.setIfInBounds m U) (b.put (J o) n) a)(w:(I e (γ c b.tmps)=U/\∀p,j p->(κ b.eval e).run l p=.ok (.value n) p)\/(I e (γ c b.tmps)=ι/\n=undef)):ε l i c g j (d+1) f b a:=by
 rw[Z,Z]at k;rw[<-u]at s r;exact η v k.1.1 k.1.2 k.2 s w t r
theorem sP{e:TypeInfo}{d:String}{g f}(b:(D (λc=>c.name==d) e.methods).map (λa=>(a.path,a.func))=J (#[],J (g,f))):∃a,D (λc=>c.name==d) e.methods=J a/\a.path= #[]/\a.func=J (g,f):=by
 cases i:D (λc=>c.name==d) e.methods with
 |none=>rw[i]at b;cases b
 |some a=>rw[i]at b;simp at b;exact⟨a,rfl,b.1,b.2⟩
theorem JZ(d:Program)(c b a)(f e:String):Sem.run d (Builtin.ssaWrapNilChk_ #[b] b #[E (J a),strVal f,strVal e]) c=.ok (E (J a)) c:=rfl
theorem aeT(c:World.cell? a (V d 0 ζ)=J k):Sem.run μ (M 670 393 (E (J (V d 0 ζ))) "Len") a=.ok (403,k) a:=by
 obtain⟨b,e,f,g⟩:=sP (show(D (fun i=>i.name== "Len") G.methods).map (fun b=>(b.path,b.func))=J (#[],J (403,ι))by kernel_rfl);unfold M;simp[go_sem,e,f,g,c,θ,H,A,JZ]
theorem Ic(c:World.cell? a (V d 0 ζ)=J k):Sem.run μ (M 670 393 (E (J (V d 0 ζ))) "Less") a=.ok (404,k) a:=by
 obtain⟨b,e,f,g⟩:=sP (show(D (fun i=>i.name== "Less") G.methods).map (fun b=>(b.path,b.func))=J (#[],J (404,ι))by kernel_rfl);unfold M;simp[go_sem,e,f,g,c,θ,H,A,JZ]
theorem zD(c:World.cell? a (V d 0 ζ)=J k):Sem.run μ (M 670 393 (E (J (V d 0 ζ))) "Swap") a=.ok (407,k) a:=by
 obtain⟨b,e,f,g⟩:=sP (show(D (fun i=>i.name== "Swap") G.methods).map (fun b=>(b.path,b.func))=J (#[],J (407,ι))by kernel_rfl);unfold M;simp[go_sem,e,f,g,c,θ,H,A,JZ]
theorem aeU(c b):Sem.run μ (M 670 393 (E (J (V b 0 ζ))) "Push") c=.ok (406,E (J (V b 0 ζ))) c:=by
 obtain⟨a,d,e,f⟩:=sP (show(D (fun g=>g.name== "Push") G.methods).map (fun a=>(a.path,a.func))=J (#[],J (406,U))by kernel_rfl);unfold M;simp[go_sem,d,e,f,θ,H,A]
theorem afI(c b):Sem.run μ (M 670 393 (E (J (V b 0 ζ))) "Pop") c=.ok (405,E (J (V b 0 ζ))) c:=by
 obtain⟨a,d,e,f⟩:=sP (show(D (fun g=>g.name== "Pop") G.methods).map (fun a=>(a.path,a.func))=J (#[],J (405,U))by kernel_rfl);unfold M;simp[go_sem,d,e,f,θ,H,A]
end Go.Proofs.YthkeffolmbnkaaaGreatDoor
