import Derived.Test.YtocbogeoffeolaaGreatDoorTurAG
import Derived.OrdersHeld
import Derived.Below
import Derived.WalkKit
set_option linter.all false
set_option maxHeartbeats 8000000
set_option maxRecDepth 1000000
open Go.Region renaming ready->a4,wanted->a5,binds->a6,noSelect_spec->a7,free_spec->a8,schedule->a9,noSelect->aA,free->aB
open Array renaming replicate->aC,getElem?_eq_none->aD,getElem?_eq_some_iff->aE,getD_eq_getD_getElem?->aF,setIfInBounds_comm->aG,mem_toList_iff->aH,empty_append->aI
open Go renaming yielded->aJ,execOp->aK,FuncId->aL,ready_mono->aM,stepG->aN,getD_set_ne->aO,wanted_put->aP,execOp_put->aQ,TypeId->aR,step_lone_go->aS,exitTo->aT,seen->aU,lone->aV,callDeferred->aW
open Go.stepG renaming apply->aX,exec->aY,oper->aZ
open Bool renaming false_eq_true->ba,and_eq_true->bc,true_or->bd
open List renaming not_mem_nil->be,mem_cons->bf,all_cons->bg,all_eq_true->bh,mem_filter->bi,mem_map->bj,range->bk
open Go.Region.linearise renaming go->bl
open Nat renaming le_refl->bm,lt_or_ge->bn,zero_le->bo
open Go.Frame renaming enter->bp,finish_at->bq,finish->br,oper?->bs,eval->bt
open Go.GStep renaming after->bu
open Option renaming getD_some->bv,bind_some->bw,map_some->bx
open Go.RowKit.Below renaming refl->bz,trans->b0,size->b1
open Go.Instr renaming loadAt->b2
open Go renaming undef->b3
namespace Go.Proofs.YtocbogeoffeolaaGreatDoor
open Go.Proofs.Tryz
section
open Go.RowKit
variable {K:(World->Prop)->Act->Prop} {a:Act} {listed:Array Bool} {fuel i id:Nat} {o oi:Oper} {v:Value} {b c w:World} {C:World->Prop}
def eX(y O:World):Prop:=Below y.heap.size y O
theorem eX.refl(y:World):eX y y:=bz ..
theorem eX.trans{a:World}(h:eX a b)(y:eX b c):eX a c:=b0 h (Below.mono y (b1 h))
theorem eX.alloc(y:World)(o:Obj):eX y (y.alloc o):=(bz ..).alloc (bm _) o
def D.eX(y O:World):Prop:=Below y.heap.size y O/\y.drawn<=O.drawn
theorem D.eX.refl(y:World):D.eX y y:=⟨bz ..,bm _⟩
theorem D.eX.trans{a:World}(h:D.eX a b)(y:D.eX b c):D.eX a c:=⟨b0 h.1 (Below.mono y.1 (b1 h.1)),Nat.le_trans h.2 y.2⟩
theorem D.eX.alloc(y:World)(o:Obj):D.eX y (y.alloc o):=⟨(bz ..).alloc (bm _) o,bm _⟩
def gw(R:World->World->Prop)(C:World->Prop):Prop:=∀y O,C y->R y O->C O
theorem fG(w:World):gw eX (eX w):=λ_ _ h y=>h.trans y
theorem D.fG(w:World):gw D.eX (D.eX w):=λ_ _ h y=>h.trans y
theorem gw.and{R:World->World->Prop}{D:World->Prop}(h:gw R C)(Y:gw R D):gw R (λy=>C y/\D y):=λy O U W=>⟨h y O U.1 W,Y y O U.2 W⟩
section
variable {R:World->World->Prop} {P:Program} {ops:Array Oper} {md:Region.Mode} {Q:Exit->Act->World->Prop}
def io(P:Program)(w:World)(B:Value->World->Prop):Result Go.Next->Prop
 |.ok (.value u) w'=>B u w'
 |.ok .skip w'=>B b3 w'
 |.ok (.enter f args) w'=>w'=w/\Calls P f args w (λe y=>∃v,e=.returned v/\B v y)
 |_=>False
def gm(P:Program)(o:Oper)(a:Act)(w:World)(B:Value->World->Prop):Prop:=io P w B ((aK a.eval o).run P w)
theorem io.mono{B y:Value->World->Prop}(h:∀v w,B v w->y v w):∀{r:Result Go.Next},io P w B r->io P w y r:=by
 intro r hh
 cases r with
 |ok n w'=>
  cases n<;>simp only[io]at hh⊢
  case value u=>exact h _ _ hh
  case skip=>exact h _ _ hh
  case enter f args=>exact⟨hh.1,hh.2.mono λe w'' ⟨v,he,hb⟩=>⟨v,he,h _ _ hb⟩⟩
 |halt x w'=>simp only[io]at hh
def Jo(R:World->World->Prop)(P:Program)(ops:Array Oper)(i:Nat)(C:World->Prop)(K:(World->Prop)->Act->Prop)(a:Act):Prop:=
 match ops[i]? with
 |none=>K C a
 |some o=>if a5 o (aJ ops a.tmps)=true then
   ∃(X:Type)(O:X->World->Prop)(U:X->Value),(∀x,gw R (O x))/\(∀x y,O x y->C y)/\(∀y,C y->gm P o a y (λv W=>R y W/\∃x,v=U x/\O x W))/\∀x,K (O x) (a.put o.dst (U x))
  else K C (a.put o.dst b3)
theorem Mi{K':(World->Prop)->Act->Prop}(h:∀C a,K C a->K' C a)(y:Jo R P ops i C K a):Jo R P ops i C K' a:=by
 unfold Jo at *;split
 .rename_i O; simp only[O]at y; exact h _ _ y
 .rename_i o O;simp only[O]at y;split
  .rename_i U;simp only[U,if_true]at y;obtain⟨X,W,Y,h1,h2,h3,h4⟩:=y;exact⟨X,W,Y,h1,h2,h3,λx=>h _ _ (h4 x)⟩
  .rename_i U; simp only[U]at y; exact h _ _ y
def WX(R:World->World->Prop)(P:Program)(md:Region.Mode)(ops:Array Oper)(Q:Exit->Act->World->Prop):Nat->Array Bool->(World->Prop)->Act->Prop
 |0,listed,C,a=>a4 md ops listed=[]/\∀y,C y->Q .normal a y
 |fuel+1,listed,C,a=>
  (a4 md ops listed=[]->∀y,C y->Q .normal a y)/\
  ∀i∈a4 md ops listed,Jo R P ops i C (λO U=>WX R P md ops Q fuel (listed.setIfInBounds i true) O U) a
theorem D'{K':Act->World->Prop}(hC:C w)(h:∀C a w,C w->K C a->K' a w)(hh:Jo R P ops i C K a):wpOp P ops Q i K' a w:=by
 unfold Jo at hh;unfold wpOp;split
 .rename_i O; simp only[O]at hh; exact h _ _ _ hC hh
 .rename_i o O;simp only[O]at hh;split
  .rename_i U;simp only[U,if_true]at hh;obtain⟨X,Cx,vx,_,_,Y,W⟩:=hh;have h5:=Y w hC;refine .inl ?_;unfold gm at h5;unfold Oper.wp;generalize (aK _ o).run P w=r at *
   cases r with
   |ok n w'=>
    cases n<;>simp only[io]at h5<;>simp only[Oper.upon]
    case value u=>
     obtain⟨_,x,rfl,y⟩:=h5;exact h _ _ _ y (W x)
    case skip=>
     obtain⟨_,x,e,y⟩:=h5;rw[e];exact h _ _ _ y (W x)
    case enter f args=>
     obtain⟨e1,hc⟩:=h5;rw[e1];refine hc.mono λe aa he=>?_;obtain⟨v,rfl,_,x,rfl,y⟩:=he;exact h _ _ _ y (W x)
   |halt x w'=>simp only[io]at h5
  .rename_i U; simp only[U]at hh; exact h _ _ _ hC hh
theorem vI:∀(fuel:Nat)(listed:Array Bool)(C:World->Prop)(a:Act)(w:World),C w->WX R P md ops Q fuel listed C a->wpAny P md ops Q fuel listed a w
 |0,_,_,_,w,y,h=>⟨h.1,h.2 w y⟩
 |fuel+1,_,_,_,w,y,h=>⟨λU=>h.1 U w y,λi hi=>D' y (λW Y w' O h'=>vI fuel _ W Y w' O h') (h.2 i hi)⟩
def fX(R:World->World->Prop)(P:Program)(ops:Array Oper)(C:World->Prop)(o:Oper)(v:Value)(a:Act):Prop:=
 (a5 o (aJ ops a.tmps)=true/\∀y,C y->gm P o a y (λu O=>R y O/\u=v))\/
 (a5 o (aJ ops a.tmps)=false/\v=b3)
theorem fX.sub{O:World->Prop}(h:fX R P ops C o v a)(U:∀y,O y->C y):fX R P ops O o v a:=by
 rcases h with⟨W,Y⟩|h
 .exact .inl ⟨W,λy hy=>Y y (U y hy)⟩
 .exact .inr h
theorem fX.of_same{y:Act}(O:fX R P ops C o v a)(U:aK y.eval o=aK a.eval o)
  (W:a5 o (aJ ops y.tmps)=a5 o (aJ ops a.tmps)):fX R P ops C o v y:=by
 unfold fX gm at *;rw[U,W];exact O
theorem fX.TB(hi:ops[i]?=some o)(hC:gw R C)(O:fX R P ops C o v a)(h:K C (a.put o.dst v)):Jo R P ops i C K a:=by
 unfold Jo;simp only[hi];rcases O with⟨U,Y⟩|⟨U,rfl⟩
 .simp only[U,if_true];exact⟨Unit,λ_=>C,λ_=>v,λ_=>hC,λ_ _ h=>h,λy O=>(Y y O).mono λu y' ⟨W,h2⟩=>⟨W,(),h2,hC y y' O W⟩,λ_=>h⟩
 .simp only[U,ba,if_false]; exact h
theorem OU{j:Nat}{O:Oper}(hj:ops[j]?=some O)(W:oi.apart ops O=true)
  (Y:∀cs b,oi.op≠.select cs b) (aa:∀cs b,O.op≠.select cs b) {K:(World->Prop)->Act->Prop} {a:Act} (hC:gw R C)
  (U:fX R P ops C oi v a) (h:Jo R P ops j C K (a.put oi.dst v)) :
  Jo R P ops j C (λC' a'=>gw R C'/\fX R P ops C' oi v a'/\K C' (a'.put oi.dst v)) a:=by
 obtain⟨h1,h2,h3⟩:=Oper.apart_spec W
 have lh:∀(C:World->Prop)(a:Act),fX R P ops C oi v a->∀u,fX R P ops C oi v _:=λC a U u=>
  U.of_same (aQ oi Y a _ u h3) (aP oi a _ u h3)
 unfold Jo at *;simp only[hj]at *;rw[aP O a _ v h1]at h;split
 .rename_i hw;simp only[hw,if_true]at h;obtain⟨X,Cx,vx,q1,q2,q3,q4⟩:=h;refine⟨X,Cx,vx,q1,q2,λy ab=>?_,λx=>⟨q1 x,lh _ _ (U.sub (q2 x)) _,by rw[<-Act.put_comm a v _ h2]; exact q4 x⟩⟩;have:=q3 y ab;unfold gm at *;rwa [aQ O aa a _ v h1]at this
 .rename_i hw;simp only[hw]at h;exact⟨hC,lh _ a U _,by rw[<-Act.put_comm a v b3 h2]; exact h⟩
theorem D8(hi:ops[i]?=some oi)(W:∀(j:Nat)(o:Oper)cs b,ops[j]?=some o->o.op≠.select cs b) :
  ∀(fuel:Nat)(listed:Array Bool)(C:World->Prop)(a:Act),
   (∀j oj,ops[j]?=some oj->j≠i->listed.getD j true=false->(∀e∈oj.after,a6 md e=true->e.on≠i)->oi.apart ops oj=true)->
   i∈a4 md ops listed->gw R C->fX R P ops C oi v a->
   WX R P md ops Q fuel (listed.setIfInBounds i true) C (a.put oi.dst v)->WX R P md ops Q (fuel+1) listed C a:=by
 intro fuel
 induction fuel with
 |zero=>
  intro listed C a _ hr hC hy H;refine⟨λh=>(by rw[h]at hr; cases hr),λj hj=>?_⟩;by_cases y:j=i
  .subst y; exact hy.TB hi hC H
  .have:=aM hj y;rw[H.1]at this;cases this
 |succ fuel ih=>
  intro listed C a O hr hC hy H;refine⟨λh=>(by rw[h]at hr; cases hr),λj hj=>?_⟩;by_cases y:j=i
  .subst y; exact hy.TB hi hC H
  .have h1:=H.2 j (aM hj y);obtain⟨Y,oj,aa,ft⟩:=_root_.Go.mem_ready.1 hj
   have ab:∀e∈oj.after,a6 md e=true->e.on≠i:=λe he hb ae=>by
    have h1:=ft e he hb;have h0:=(_root_.Go.mem_ready.1 hr).1;rw[ae]at h1;rcases bn i listed.size with h'|h'
    .simp[h']at h0 h1; rw[h0]at h1; cases h1
    .simp[aD h']at h1
   have h2:=OU aa (O j oj aa y Y ab) (λcs b=>W i oi cs b hi) (λcs b=>W j oj cs b aa) hC hy h1
   have U:∀k ok,ops[k]?=some ok->k≠i->(listed.setIfInBounds j true).getD k true=false->
     (∀e∈ok.after,a6 md e=true->e.on≠i)->oi.apart ops ok=true:=λk ok hk af ac ag=>by
    refine O k ok hk af ?_ ag;by_cases ad:j=k
    .subst ad; exact Y
    .rw[aO true ad]at ac; exact ac
   refine Mi (λC' a' h3=>ih _ C' a' U (aM hr (Ne.symm y)) h3.1 h3.2.1 ?_) h2;rw[aG _ _ y];exact h3.2.2
theorem dI(i:Nat)(v:Value)(O:∀y,C y->gm P oi a y (λu U=>R y U/\u=v))
  (h:WX R P md ops Q fuel (listed.setIfInBounds i true) C (a.put oi.dst v)) (hi:ops[i]?=some oi:=by rfl)
  (W:aA ops=true:=by kernel_rfl) (Y:aB md ops listed i=true:=by kernel_rfl) (hr:(a4 md ops listed).contains i=true:=by kernel_rfl) (hC:gw R C:=by first|exact fG _|exact D.fG _)
  (hw:a5 oi (aJ ops a.tmps)=true:=by rfl):WX R P md ops Q (fuel+1) listed C a:=
 D8 hi (a7 W) fuel listed C a (a8 hi Y) (by simpa using hr) hC (.inl ⟨hw,O⟩) h
theorem Rt{rs:List Nat}(O:a4 md ops listed=rs)(y:rs≠[])
  (h:∀i∈rs,Jo R P ops i C (λU W=>WX R P md ops Q fuel (listed.setIfInBounds i true) U W) a):WX R P md ops Q (fuel+1) listed C a:=
 ⟨λY=>absurd (O▸Y) y,O▸h⟩
theorem wT(O:a4 md ops listed=[])(h:∀y,C y->Q .normal a y):∀fuel,WX R P md ops Q fuel listed C a
 |0=>⟨O,h⟩
 |_+1=>⟨λ_=>h,by rw[O]; simp⟩
theorem Pe(W:Nat->Value)(D:Nat->World->Prop)(hi:ops[i]?=some oi)(hC:gw R C)(hD:∀g,gw R (D g))
  (hw:a5 oi (aJ ops a.tmps)=true) (hy:∀y,C y->gm P oi a y (λv U=>R y U/\v=W y.heap.size/\D y.heap.size U))
  (h:∀g,K (λy=>C y/\D g y) (a.put oi.dst (W g))):Jo R P ops i C K a:=by
 unfold Jo;simp only[hi,hw,if_true];exact⟨Nat,λg y=>C y/\D g y,W,λg=>hC.and (hD g),λ_ _ h=>h.1,λy O=>(hy y O).mono λv U ⟨Y,h2,h3⟩=>⟨Y,y.heap.size,h2,hC y U O Y,h3⟩,h⟩
theorem vr(y:R w {w with drawn:=w.drawn+1})(hm:P.follows .mixedOrders=true)
  (h:WX R P .any ops Q ops.size (aC ops.size false) (R w) a):(Code.region id ops true).wp P Q a w:=
 wp_region_any hm (vI _ _ _ _ _ y h)
theorem lZ(hm:P.follows .mixedOrders=true)(h:WX eX P .any ops Q ops.size (aC ops.size false) (eX w) a):(Code.region id ops true).wp P Q a w:=
 vr ⟨rfl,rfl,rfl,bm _,λ_ _=>rfl⟩ hm h
theorem D.lZ(hm:P.follows .mixedOrders=true)(h:WX D.eX P .any ops Q ops.size (aC ops.size false) (D.eX w) a):(Code.region id ops true).wp P Q a w:=
 vr ⟨⟨rfl,rfl,rfl,bm _,λ_ _=>rfl⟩,Nat.le_succ _⟩ hm h
theorem Ea(U:∀y O,R y O->Below y.heap.size y O)(a:Addr)(v:Value):gw R (λy=>y.cell? a=some v):=λy O h W=>by
 have hb:=Below.block (U _ _ W) _ (World.block_lt_of_cell? y a h);show O.cell? a=some v;rw[World.cell?_of_block hb]; exact h
theorem gf(a:Addr)(v:Value):gw eX (λy=>y.cell? a=some v):=Ea (λ_ _ h=>h) a v
theorem D.gf(a:Addr)(v:Value):gw D.eX (λy=>y.cell? a=some v):=Ea (λ_ _ h=>h.1) a v
end
end
section
open Go.RowKit
variable {K:(World->Prop)->Act->Prop} {a:Act} {listed:Array Bool} {i:Nat} {oi:Oper} {v:Value} {C:World->Prop}
def me(C:World->Prop):Prop:=∀y τ,C y->C (tp y τ)
def l6(w:World):World->Prop:=λy=>∃τ,eX (tp w τ) y
theorem l6.Ry(w:World):gw eX (l6 w):=λ_ _ ⟨τ,h⟩ y=>⟨τ,h.trans y⟩
theorem Rj{w y:World}(h:eX w y)(τ:Nat->Question->Nat):eX (tp w τ) (tp y τ):=by
 obtain⟨O,h2,U,W,Y⟩:=h;exact⟨O,rfl,U,W,Y⟩
theorem l6.free(w:World):me (l6 w):=λy τ ⟨_,h⟩=>⟨τ,Rj h τ⟩
theorem l6.at(w:World)(d:Nat):l6 w (w.at d):=⟨w.tape,⟨rfl,rfl,rfl,bm _,λ_ _=>rfl⟩⟩
section
variable {P:Program} {ops:Array Oper} {md:Region.Mode} {last:Nat} {tl:List Nat} {Sd:Act->World->Prop}
def Aa(P:Program)(ops:Array Oper)(i:Nat)(C:World->Prop)(K:(World->Prop)->Act->Prop)(a:Act):Prop:=
 match ops[i]? with
 |none=>False
 |some o=>if a5 o (aJ ops a.tmps)=true then
   ∃(X:Type)(O:X->World->Prop)(U:X->Value),(∀x,gw eX (O x))/\(∀x,me (O x))/\(∀x y,O x y->C y)/\(∀y,C y->gm P o a y (λv W=>eX y W/\∃x,v=U x/\O x W))/\∀x,K (O x) (a.put o.dst (U x))
  else K C (a.put o.dst b3)
theorem LF{K':(World->Prop)->Act->Prop}(h:∀C a,K C a->K' C a)(y:Aa P ops i C K a):Aa P ops i C K' a:=by
 unfold Aa at *;split
 .rename_i O; simp only[O]at y
 .rename_i o O;simp only[O]at y;split
  .rename_i U;simp only[U,if_true]at y;obtain⟨X,W,Y,h1,h2,h3,h4,h5⟩:=y;exact⟨X,W,Y,h1,h2,h3,h4,λx=>h _ _ (h5 x)⟩
  .rename_i U; simp only[U]at y; exact h _ _ y
def WS(P:Program)(md:Region.Mode)(ops:Array Oper)(last:Nat)(tl:List Nat)(Sd:Act->World->Prop):Nat->Array Bool->(World->Prop)->Act->Prop
 |0,_,_,_=>False
 |fuel+1,listed,C,a=>a4 md ops listed≠[]/\∀i∈a4 md ops listed,if i=last then(∀t,bl md ops fuel t (listed.setIfInBounds last true) []=tl)/\∀y,C y->Sd a y else Aa P ops i C (λO U=>WS P md ops last tl Sd fuel (listed.setIfInBounds i true) O U) a
structure Gz(P:Program)(ops:Array Oper)(last:Nat)(W:List Nat->Act->World->Prop):Prop where
 op:∀(i:Nat)rest a w o,i≠last->ops[i]?=some o->a5 o (aJ ops a.tmps)=true->(∀τ,gm P o a (tp w τ) λv y=>eX (tp w τ) y/\W rest (a.put o.dst v) y)->W (i::rest) a w
 pass:∀(i:Nat)rest a w o,i≠last->ops[i]?=some o->a5 o (aJ ops a.tmps)=false->W rest (a.put o.dst b3) w->W (i::rest) a w
theorem WS.sound{W:List Nat->Act->World->Prop}(U:Gz P ops last W)(O:∀a y,Sd a y->W (last::tl) a y):∀(fuel t:Nat)(listed:Array Bool)(C:World->Prop)(a:Act)(w:World),me C->C w->WS P md ops last tl Sd fuel listed C a->W (bl md ops fuel t listed []) a w
 |0,_,_,_,_,_,_,_,h=>h.elim
 |fuel+1,t,listed,C,a,w,hT,hC,h=>by
  obtain⟨h0,h1⟩:=h
  change W (match (a4 md ops listed)[t % (a4 md ops listed).length]? with
   |some i=>bl md ops fuel ..
   |none=>[].reverse) a w
  cases hi:(a4 md ops listed)[t % (a4 md ops listed).length]? with
  |none=>
   exfalso
   cases hr:a4 md ops listed with
   |nil=>exact h0 hr
   |cons x xs=>
    rw[hr]at hi;have aa:t % (x::xs).length<(x::xs).length:=Nat.mod_lt _ (by simp);simp at hi;simp at aa;omega
  |some i=>
   simp only[];rw[linearise_go_acc];have h2:=h1 i (List.mem_of_getElem? hi);by_cases e:i=last
   .subst e;simp only[if_true]at h2;rw[h2.1];exact O a w (h2.2 w hC)
   .simp only[e,if_false]at h2;unfold Aa at h2
    cases Y:ops[i]? with
    |none=>simp only[Y]at h2
    |some o=>
     simp only[Y]at h2;by_cases hw:a5 o (aJ ops a.tmps)=true
     .simp only[hw,if_true]at h2;obtain⟨X,Cx,vx,q1,q2,q3,q4,q5⟩:=h2;refine U.op i _ a w o e Y hw λτ=>(q4 _ (hT w τ hC)).mono λv y ⟨he,x,ev,hx⟩=>⟨he,?_⟩;rw[ev];exact WS.sound U O fuel _ _ _ _ y (q2 x) hx (q5 x)
     .simp only[hw,ba,if_false]at h2;exact U.pass i _ a w o e Y (by simpa using hw) (WS.sound U O fuel _ _ C _ w hT hC h2)
inductive RX(md:Region.Mode)(ops:Array Oper)(last:Nat):Nat->Prop
 |base {e o}:ops[last]?=some o->e∈o.after->a6 md e=true->RX md ops last e.on
 |step {j:Nat} {e o}:RX md ops last j->ops[j]?=some o->e∈o.after->a6 md e=true->RX md ops last e.on
def Down(md:Region.Mode)(ops:Array Oper)(listed:Array Bool):Prop:=∀(j:Nat)o,ops[j]?=some o->listed.getD j false=true->∀e∈o.after,a6 md e=true->listed.getD e.on false=true
theorem Down.TP(h:Down md ops listed)(W:last∈a4 md ops listed)(hi:RX md ops last i):listed.getD i false=true:=by
 induction hi with
 |base O U hb=>
  obtain⟨_,o',y,ft⟩:=_root_.Go.mem_ready.1 W;rw[O]at y;cases y;exact ft _ U hb
 |step _ O U hb Y=>exact h _ _ O Y _ U hb
theorem Down.set(h:Down md ops listed)(hr:i∈a4 md ops listed):Down md ops (listed.setIfInBounds i true):=by
 have up:∀k,listed.getD k false=true->(listed.setIfInBounds i true).getD k false=true:=by
  intro k U;by_cases e:i=k
  .subst e
   have:i<listed.size:=by
    apply Classical.byContradiction;intro hn;simp[aD (Nat.le_of_not_lt hn)]at U
   simp[this]
  .rw[aO false e]; exact U
 intro j o W Y e he hb;by_cases y:i=j
 .subst y;obtain⟨_,o',O,ft⟩:=_root_.Go.mem_ready.1 hr;rw[W]at O;cases O;exact up _ (ft e he hb)
 .rw[aO false y]at Y;exact up _ (h j o W Y e he hb)
theorem Oj{j:Nat}{O:Oper}(hj:ops[j]?=some O)(Y:oi.apart ops O=true)
  (aa:∀cs b,oi.op≠.select cs b) (ab:∀cs b,O.op≠.select cs b) {K:(World->Prop)->Act->Prop} {a:Act} (hC:gw eX C) (hT:me C)
  (U:fX eX P ops C oi v a) (h:Aa P ops j C K (a.put oi.dst v)) :
  Aa P ops j C (λW a'=>(gw eX W/\me W)/\fX eX P ops W oi v a'/\K W (a'.put oi.dst v)) a:=by
 obtain⟨h1,h2,h3⟩:=Oper.apart_spec Y
 have lh:∀(C:World->Prop)(a:Act),fX eX P ops C oi v a->∀u,fX eX P ops C oi v _:=λC a U u=>
  U.of_same (aQ oi aa a _ u h3) (aP oi a _ u h3)
 unfold Aa at *;simp only[hj]at *;rw[aP O a _ v h1]at h;split
 .rename_i hw;simp only[hw,if_true]at h;obtain⟨X,Cx,vx,q1,qt,q2,q3,q4⟩:=h;refine⟨X,Cx,vx,q1,qt,q2,λy ac=>?_,λx=>⟨⟨q1 x,qt x⟩,lh _ _ (U.sub (q2 x)) _,by rw[<-Act.put_comm a v _ h2]; exact q4 x⟩⟩;have:=q3 y ac;unfold gm at *;rwa [aQ O ab a _ v h1]at this
 .rename_i hw;simp only[hw]at h;exact⟨⟨hC,hT⟩,lh _ a U _,by rw[<-Act.put_comm a v b3 h2]; exact h⟩
theorem fX.Tu{o:Oper}(hi:ops[i]?=some o)(hC:gw eX C)(Y:me C)(O:fX eX P ops C o v a)(h:K C (a.put o.dst v)):Aa P ops i C K a:=by
 unfold Aa;simp only[hi];rcases O with⟨U,hv⟩|⟨U,rfl⟩
 .simp only[U,if_true];exact⟨Unit,λ_=>C,λ_=>v,λ_=>hC,λ_=>Y,λ_ _ h=>h,λy O=>(hv y O).mono λu y' ⟨W,h2⟩=>⟨W,(),h2,hC y y' O W⟩,λ_=>h⟩
 .simp only[U,ba,if_false]; exact h
theorem MH(hi:ops[i]?=some oi)(ad:RX md ops last i)(ak:i≠last)(aa:∀(j:Nat)(o:Oper)cs b,ops[j]?=some o->o.op≠.select cs b) :
  ∀(fuel:Nat)(listed:Array Bool)(C:World->Prop)(a:Act),Down md ops listed->
   (∀j oj,ops[j]?=some oj->j≠i->listed.getD j true=false->(∀e∈oj.after,a6 md e=true->e.on≠i)->oi.apart ops oj=true\/j=last)->
   i∈a4 md ops listed->gw eX C->me C->fX eX P ops C oi v a->
   WS P md ops last tl Sd fuel (listed.setIfInBounds i true) C (a.put oi.dst v)->WS P md ops last tl Sd (fuel+1) listed C a:=by
 intro fuel
 induction fuel with
 |zero=>intro listed C a _ _ _ _ _ _ H; exact H.elim
 |succ fuel ih=>
  intro listed C a hD O hr hC hT hy H;refine⟨λh=>(by rw[h]at hr; cases hr),λj hj=>?_⟩;have y:=(_root_.Go.mem_ready.1 hr).1;by_cases W:j=last
  .subst W;have:=hD.TP hj ad;rcases bn i listed.size with h'|h'
   .simp[h']at this y; rw[y]at this; cases this
   .simp[aD h']at this
  .simp only[W,if_false];by_cases U:j=i
   .subst U; exact hy.Tu hi hC hT H
   .have h1:=H.2 j (aM hj U);simp only[W,if_false]at h1;obtain⟨ab,oj,ac,ft⟩:=_root_.Go.mem_ready.1 hj
    have ae:∀e∈oj.after,a6 md e=true->e.on≠i:=λe he hb ah=>by
     have h1:=ft e he hb;rw[ah]at h1;rcases bn i listed.size with h'|h'
     .simp[h']at y h1; rw[y]at h1; cases h1
     .simp[aD h']at h1
    have h2:=Oj ac ((O j oj ac U ab ae).resolve_right W) (λcs b=>aa i oi cs b hi) (λcs b=>aa j oj cs b ac) hC hT hy h1
    have Y:∀k ok,ops[k]?=some ok->k≠i->(listed.setIfInBounds j true).getD k true=false->
      (∀e∈ok.after,a6 md e=true->e.on≠i)->oi.apart ops ok=true\/k=last:=λk ok hk ai af aj=>by
     refine O k ok hk ai ?_ aj;by_cases ag:j=k
     .subst ag; exact ab
     .rw[aO true ag]at af; exact af
    refine LF (λC' a' h3=>ih _ C' a' (hD.set hj) Y (aM hr (Ne.symm U)) h3.1.1 h3.1.2 h3.2.1 ?_) h2;rw[aG _ _ U];exact h3.2.2
end
end
section
open Go.RowKit
open Go.Conc
variable {listed:Array Bool} {fuel:Nat} {o:Oper} {C:World->Prop}
section
variable {P:Program} {ops:Array Oper} {md:Region.Mode} {last:Nat} {tl:List Nat} {Sd:Act->World->Prop}
def uw(md:Region.Mode)(ops:Array Oper)(j:Nat):List Nat:=match ops[j]? with
 |some o=>(o.after.toList.filter λe=>a6 md e).map (·.on)
 |none=>[]
def P8(md:Region.Mode)(ops:Array Oper)(last:Nat):Nat->List Nat
 |0=>uw md ops last
 |n+1=>P8 md ops last n++(P8 md ops last n).flatMap (uw md ops)
theorem DD{j i:Nat}(h:i∈uw md ops j):∃o e,ops[j]?=some o/\e∈o.after/\a6 md e=true/\e.on=i:=by
 unfold uw at h
 cases y:ops[j]? with
 |none=>rw[y]at h; cases h
 |some o=>
  rw[y]at h;simp only[bj,bi,aH]at h;obtain⟨e,⟨O,U⟩,W⟩:=h;exact⟨o,e,rfl,O,U,W⟩
theorem GV:∀(n:Nat){i:Nat},i∈P8 md ops last n->RX md ops last i
 |0,i,h=>by
  obtain⟨o,e,y,O,U,rfl⟩:=DD h
  exact .base y O U
 |n+1,i,h=>by
  rcases List.mem_append.1 h with h|h
  .exact GV n h
  .obtain⟨j,W,hi⟩:=List.mem_flatMap.1 h;obtain⟨o,e,y,O,U,rfl⟩:=DD hi;exact .step (GV n W) y O U
def Nr(md:Region.Mode)(ops:Array Oper)(listed:Array Bool):Bool:=(bk ops.size).all λj=>!listed.getD j false || (uw md ops j).all λi=>listed.getD i false
theorem P4(h:Nr md ops listed=true):Down md ops listed:=by
 intro j o y O e U hb;unfold Nr at h;rw[bh]at h;have:=h j (by simpa using(aE.1 y).1);rw[O]at this;simp only[Bool.not_true,Bool.false_or,bh]at this;refine this _ ?_;unfold uw;rw[y];simp only[bj,bi,aH];exact⟨e,⟨U,hb⟩,rfl⟩
def QF(md:Region.Mode)(ops:Array Oper)(last:Nat)(listed:Array Bool)(i:Nat):Bool:=aA ops&&aB md ops listed i&&(a4 md ops listed).contains i&&(P8 md ops last ops.size).contains i&&i != last&&Nr md ops listed
theorem dD(i:Nat)(v:Value){oi:Oper}{a:Act}(O:∀y,C y->gm P oi a y (λu U=>eX y U/\u=v))
  (h:WS P md ops last tl Sd fuel (listed.setIfInBounds i true) C (a.put oi.dst v)) (hi:ops[i]?=some oi:=by rfl) (hb:QF md ops last listed i=true:=by kernel_rfl) (hC:gw eX C:=by exact l6.Ry _) (W:me C:=by exact l6.free _)
  (Y:a5 oi (aJ ops a.tmps)=true:=by rfl):WS P md ops last tl Sd (fuel+1) listed C a:=by
 simp only[QF,bc]at hb;obtain⟨⟨⟨⟨⟨h1,h2⟩,h3⟩,h4⟩,h5⟩,h6⟩:=hb;exact MH hi (GV _ (by simpa using h4)) (by simpa using h5) (a7 h1) fuel listed C a (P4 h6) (λj oj a b c d=>.inl (a8 hi h2 j oj a b c d)) (by simpa using h3) hC W (.inl ⟨Y,O⟩) h
theorem Dd(O:a4 md ops listed=[]):∀(fuel t:Nat),bl md ops fuel t listed []=[]
 |0,_=>rfl
 |f+1,t=>by
  simp only[bl]
  split
  .rename_i q U
   have y:(a4 md ops listed)[t % (a4 md ops listed).length]?=some q:=U
   rw[O]at y;cases y
  .rfl
theorem nX{a:Act}(U:a4 md ops listed=[last])(W:∀t,bl md ops fuel t (listed.setIfInBounds last true) []=tl)(h:∀y,C y->Sd a y):WS P md ops last tl Sd (fuel+1) listed C a:=by
 refine⟨by rw[U]; simp,λj O=>?_⟩;rw[U]at O;simp only[bf,be,or_false]at O;subst O;simp only[if_true];exact⟨W,h⟩
end
section
variable {P:Program} {ops:Array Oper} {Q:Exit->Act->World->Prop}
def nf(P:Program)(ops:Array Oper)(Q:Exit->Act->World->Prop)(l:List Nat)(a:Act)(w:World):Prop:=∀b k cs,∃e y w',Q e y w'/\Arrives P (aV (b.at a (.inRegion ops l::k)) cs w) b k cs e y w'
theorem kF{i:Nat}{rest:List Nat}{a:Act}{w:World}(ho:ops[i]?=some o)(hw:a5 o (aJ ops a.tmps)=true)(hj:gm P o a w λv y=>nf P ops Q rest (a.put o.dst v) y):nf P ops Q (i::rest) a w:=by
  intro b k cs;have hg:=stepG_op (P:=P) (b:=b) (k:=k) (cs:=cs) (w:=w) (rest:=rest) ho hw
  have U:∀v,(b.at a (.inRegion ops (i::rest)::k)).finish v=b.at (a.put o.dst v) (.inRegion ops rest::k):=by
   intro v; rw[bq,ho]; rfl
  unfold gm at hj
  cases hr:(aK _ o).run P w with
  |halt x w'=>rw[hr]at hj; exact hj.elim
  |ok n w'=>
   rw[hr]at hj;cases n<;>simp only[io]at hj
   case value v=>
    obtain⟨e,a',W,hq,O⟩:=hj b k cs;refine⟨e,a',W,hq,.of_steps (.one (aS ?_)) O⟩;rw[hg,<-U]; simp[aX,hr]
   case skip=>
    obtain⟨e,a',W,hq,O⟩:=hj b k cs;refine⟨e,a',W,hq,.of_steps (.one (aS ?_)) O⟩;rw[hg,<-U]; simp[aX,hr]
   case enter f args=>
    obtain⟨rfl,hc⟩:=hj;obtain⟨e,w2,fr,⟨v,rfl,hR⟩,ab,_,Y⟩:=hc _;obtain⟨e,a',W,hq,O⟩:=hR b k cs
    have aa:step P _=.next (aV (bp P f args .normal) (b.at a (.inRegion ops (i::rest)::k)::cs) w'):=
     aS (by rw[hg]; simp[aX,hr,Frame.at])
    refine⟨e,a',W,hq,.of_steps (.head aa (Steps.trans ab (.one ?_))) O⟩;rw[<-U]; exact step_leave_returned Y
theorem Ho{i:Nat}{rest:List Nat}{a:Act}{w:World}(O:ops[i]?=some o)(W:a5 o (aJ ops a.tmps)=false)(h:nf P ops Q rest (a.put o.dst b3) w):nf P ops Q (i::rest) a w:=by
  intro b k cs;obtain⟨e,Y,w',hq,y⟩:=h b k cs;have U:=step_op_skip (P:=P) (b:=b) (a:=a) (k:=k) (cs:=cs) (w:=w) (ops:=ops) (i:=i) (rest:=rest) (by simp[O,W]);simp only[O,bw]at U;exact⟨e,Y,w',hq,.of_steps (.one U) y⟩
theorem Hr{last:Nat}{τ₀:Nat->Question->Nat}:Gz P ops last λl a w=>w.tape=τ₀->nf P ops Q l a w where
 op i rest a w o _ ho hw hj ht:=kF ho hw ((show gm P o a w _ from hj w.tape).mono λ_ _ h=>h.2 (h.1.tape.trans ht))
 pass i rest a w o _ ho hw h ht:=Ho ho hw (h ht)
theorem xF{i:Nat}{a:Act}{w:World}{x y:Operand}{r cap s rc:Nat}{O:Array Value}{tm:Bool}{v:Value}(ho:ops[i]?=some o)(hg:o.guard=none)(aa:o.op=.send x y)(hd:o.dst=none)(hx:a.eval x=.chan (some r))(hy:a.eval y=v)(hc:w.heap[r]?=some (.chan cap O false s rc tm))(hb:O.size<cap)
  (h:Q .normal a {w with heap:=w.heap.setIfInBounds r (.chan cap (O.push v) false (s+1) rc tm)}):nf P ops Q [i] a w:=by
 intro b k cs;have hw:a5 o (aJ ops a.tmps)=true:=by simp[a5,hg]
 have hg:=stepG_op (P:=P) (b:=b) (k:=k) (cs:=cs) (w:=w) (rest:=[]) ho hw
 have W:aK a.eval o=pure (.comm #[{chan:=.chan (some r),send:=some v,zero:=b3}] true .send):=by
  obtain⟨d,op,ty,ps,af,gd⟩:=o;subst aa;simp only[aK,hx,hy];rfl
 have ab:aN P true (G (b.at a (.inRegion ops [i]::k)) cs) w=.comm (G (b.at a (.inRegion ops [i]::k)) cs) #[⟨.chan (some r),some v,b3⟩] true .send w (aU P b.fn (if(b.kind==CallKind.early)=true then #[]else #[])):=by
  show aN P true {frame:=b.at a _,callers:=cs,status:=.running,dying:=none} w=_;rw[hg,W];rfl
 have U:=(Fl.send (P:=P) ab hc hb).next
 have Y:(b.at a (.inRegion ops [i]::k)).finish b3=b.at a (.inRegion ops []::k):=by
  rw[bq,ho];simp[Act.put,hd]
 refine⟨.normal,a,_,h,.head U ?_⟩;show Steps P (aV ((b.at a (.inRegion ops [i]::k)).finish b3) cs _) _;rw[Y];exact .one step_region_end
theorem gO{id last:Nat}{tl:List Nat}{a:Act}{w:World}{Sd:Act->World->Prop}(hm:P.follows .mixedOrders=true)(h:WS P .any ops last tl Sd ops.size (aC ops.size false) (l6 w) a)(U:∀a y,Sd a y->y.tape=w.tape->nf P ops Q (last::tl) a y):(Code.region id ops true).wp P Q a w:=by
 intro b k cs;obtain⟨e,W,w',Y,O⟩:=WS.sound (Hr (P:=P) (ops:=ops) (Q:=Q) (τ₀:=w.tape)) U _ _ _ _ a {w with drawn:=w.drawn+1} (l6.free w) (l6.at w _) h rfl b k cs;refine⟨e,W,w',Y,.of_steps (.one ?_) O⟩;rw[step_region_draw];simp only[a9,hm,bd,if_true];rfl
end
end
section
open Go.RowKit
open Go.Conc
variable {ops:Array Oper} {last:Nat}
section
variable {P:Program} {E:Env P} {fn:aL} {tm:Array Value} {os:List OF} {wl:World} {V:List (Nat×Option (List Value))} {k:List Item}
theorem iK.calls{i:Nat}{rest:List Nat}{o:Oper}{f:aL}{args:Array Value}{R:Ending->World->Prop}(hi:ops[i]?=some o)(hC:∀τ,Am τ wl->Calls P f args (tp wl τ) R)(hR:∀e w',R e w'->∃v,e=.returned v/\dl E (⟨fn,eN o.dst tm v,.inRegion ops rest::k⟩::os) w' V) :
  iK E ⟨bp P f args .normal,[door P],wl⟩ (⟨fn,tm,.inRegion ops (i::rest)::k⟩::os) V:=by
 let O:LS->Prop:=λS=>S.cs=[door P]/\∃v,S.fr.leaving P S.w (.returned v)/\R (.returned v) S.w;refine iK.nj (Stop:=λS=>∃τ,O (S.on τ)) (λS τ ⟨y,h⟩=>⟨y,h⟩) (λy W=>?_) λS' ⟨y,hc,v,hl,Y⟩=>?_
 .obtain⟨e,w',fr,Y,U,_,aa⟩:=hC y W _;obtain⟨v,rfl,_⟩:=hR e w' Y;obtain⟨n,hn⟩:=U;exact⟨n,⟨fr,[door P],w'⟩,hn,⟨w'.tape,rfl,v,aa,Y⟩,by simp⟩
 .obtain⟨v',hv,hW⟩:=hR _ _ Y;cases hv;exact iK.tape (τ:=y) (iK.ret hi hc hl hW)
theorem dl.any{i:Nat}{rest:List Nat}{o:Oper}(hi:ops[i]?=some o)(av:a5 o (aJ ops tm)=true)(ho:OkOp P E.fq E.gl E.st o.op)
  (af:∀τ,io P (tp wl τ) (λv y=>dl E (⟨fn,eN o.dst tm v,.inRegion ops rest::k⟩::os) y V) ((aK (iI tm) o).run P (tp wl τ))):dl E (⟨fn,tm,.inRegion ops (i::rest)::k⟩::os) wl V:=by
 intro m Pd ρ gs w sl t fr' cs' W aw am ag h0;refine turn (Z:=E.Z) (a:=G fr' cs') (K:=λj=>(ρ j).sum) (N:=gs.size) rfl ?_ ρ gs w sl t aw (λ_=>rfl) h0 rfl;intro ρ' gs' w' ax aa d t' ab hK ah hN;have ai:=ag
 cases ag with
 |@cons _ _ O l ht ay=>
  have hs:=Fx W.pg.env W.pg.strict W.pg.ic (gl:=E.gl) (ρ:=iI tm) (ρ':=iI O) (λx hx=>Jc ht W.pg.nZ x hx) (λc=>⟨rfl,rfl⟩) o (by rw[W.fq]; exact ho);have an:=ab.main.tp (along wl (w'.at d));have ao:=hs.run (tp wl (along wl (w'.at d))) (w'.at d) #[] an (oU wl (w'.at d));have ap:=hs.loc (tp wl (along wl (w'.at d))) (w'.at d) an;have hJ:=af (along wl (w'.at d));have hy:a5 o (aJ ops O)=true:=by rw[show aJ ops O=aJ ops tm from funext (lK ops ht)]; exact av
  have aq:=lI (P:=P) (fn:=fn) (k:=k) (rest:=rest) (cs':=cs') (w:=w'.at d) hi hy;have ar:0<gs'.size:=(aE.1 ah).1;have ac:=λv'=>iQ fn O ops i rest k v';simp only[hi,bw]at ac
  cases ad:(aK (iI tm) o).run P (tp wl (along wl (w'.at d)))with
  |halt x wn=>rw[ad]at hJ; exact hJ.elim
  |ok n wn=>
   rw[ad]at hJ ao;obtain⟨U,n',w₁,es,e1,e2,e3,e4,_,e5,e6⟩:=ao;rw[aI]at e1
   have au:∀e∈aU P fn (if(CallKind.normal==CallKind.early)=true then #[]else es),oy U e:=λe he=>by
    have:=mem_seen he;split at this
    .simp at this
    .exact e6 e this
   have val:∀v v',VR U v v'->dl E (⟨fn,eN o.dst tm v,.inRegion ops rest::k⟩::os) wn V->aX P true (fL fn O (.inRegion ops (i::rest)::k)) cs' none (aK (iI O) o) (w'.at d)=.go (G (fL fn (eN o.dst O v') (.inRegion ops rest::k)) cs') w₁ (aU P fn (if(CallKind.normal==CallKind.early)=true then #[]else es))->E.Z.Fin (crowd gs' w' ax) (runT P (crowd gs' (w'.at d) aa) 0) t':=by
    intro v v' hv hW aj;have ak:=runT_crowd_go (P:=P) (sl:=aa) (i:=0) ah (show aN P (0==0) _ (w'.at d)=_ from aq.trans aj);rw[ak];refine E.Z.next _ _ _ _ ?_;exact hW U Pd ρ' _ _ aa _ _ _ (W.le e2 e5) (ab.wk (gs':=(gs'.map (woken P _ _ w₁)).setIfInBounds 0 (G (fL fn (eN o.dst O v') (.inRegion ops rest::k)) cs')) e2 e5 au e4 (by simp) (gz _)) (am.le e2 hK) (.cons (o:=⟨fn,eN o.dst tm v,.inRegion ops rest::k⟩) ((ht.mono e2).eN o.dst hv) (ay.mono e2)) (by simp[ar])
   cases n<;>simp only[io]at hJ
   case value v=>
    cases e3 with
    |@value _ v' hv=>
     refine val v v' hv hJ ?_;unfold aX;simp only[if_true,e1,ac];simp[bu,G,fL]
   case skip=>
    cases e3 with
    |skip=>
     refine val b3 b3 (.undef U) hJ ?_;unfold aX;simp only[if_true,e1,ac];simp[bu,G,fL]
   case enter f args=>
    obtain⟨rfl,hc⟩:=hJ
    have ft:∀τ,Am τ (tp wl (along wl (w'.at d)))->Calls P f args (tp (tp wl (along wl (w'.at d))) τ) λe az=>∃v,e=.returned v/\dl E (⟨fn,eN o.dst tm v,.inRegion ops rest::k⟩::os) az V:=by
     intro τ _;rcases ap with⟨x,w2,ex,_⟩|⟨_,_,h3⟩
     .rw[ad]at ex; cases ex
     .have h4:=h3 τ (by rw[ad]; intro j a b; simp only[Cn]at b; omega);rw[ad]at h4;have h4:(aK _ o).run P (tp wl τ)=.ok _ _:=h4;have h5:=af τ;rw[h4]at h5;exact h5.2
    have hW:=iK.calls (E:=E) (fn:=fn) (tm:=tm) (os:=os) (V:=V) (k:=k) (rest:=rest) hi ft λe w' h=>h
    cases e3 with
    |@enter _ _ al hf hb ha=>
     have aj:aX P true (fL fn O (.inRegion ops (i::rest)::k)) cs' none (aK (iI O) o) (w'.at d)=.go (G (bp P f al .normal) (fL fn O (.inRegion ops (i::rest)::k)::cs')) w₁ (aU P fn (if(CallKind.normal==CallKind.early)=true then #[]else es)):=by
      unfold aX;simp only[if_true,e1];simp[bu,G,fL]
     have ak:=runT_crowd_go (P:=P) (sl:=aa) (i:=0) ah (show aN P _ _ _=_ from aq.trans aj);rw[ak];refine E.Z.next _ _ _ _ ?_;have Y:=W.le e2 e5;have ae:=ai.mono e2;exact hW U Pd ρ' _ _ aa _ _ _ _ Y (ab.wk (gs':=(gs'.map _).setIfInBounds 0 _) e2 e5 au e4 (by simp) (gz _)) (am.le e2 hK) ae (.one (Df (Y.pg.env.calls f hf) hb ha _ _) rfl (.inl ⟨rfl,tz (.inl (by simp)) ae⟩) rfl) (by simp[ar])
theorem tc(o:Option Tmp)(tm:Array Value)(v:Value):(Act.put ⟨tm,[]⟩ o v)=⟨eN o tm v,[]⟩:=by cases o<;>rfl
def Sb(E:Env P)(fn:aL)(ops:Array Oper)(k:List Item)(os:List OF)(V:List (Nat×Option (List Value)))(l:List Nat)(a:Act)(w:World):Prop:=a.defers=[]->dl E (⟨fn,a.tmps,.inRegion ops l::k⟩::os) w V
theorem H8(W:∀(i:Nat)o,i≠last->ops[i]?=some o->OkOp P E.fq E.gl E.st o.op):Gz P ops last (Sb E fn ops k os V) where
 op:=by
  intro i rest a w o hl U Y hj O;obtain⟨tm,df⟩:=a;simp only at O;subst O;refine dl.any U Y (W i o hl U) λτ=>?_;have:=hj τ;unfold gm at this;refine io.mono (λv y ⟨_,h⟩=>?_) this;rw[tc]at h;exact h rfl
 pass:=by
  intro i rest a w o _ U Y h O;obtain⟨tm,df⟩:=a;simp only at O;subst O;rw[tc]at h;exact dl.pass U Y (h rfl)
theorem dl.Ia{id:Nat}{tl:List Nat}{Sd:Act->World->Prop}(hm:P.follows .mixedOrders=true)(O:∀(i:Nat)o,i≠last->ops[i]?=some o->OkOp P E.fq E.gl E.st o.op)(h:WS P .any ops last tl Sd ops.size (aC ops.size false) (l6 wl) ⟨tm,[]⟩)
  (U:∀a y,Sd a y->a.defers=[]/\dl E (⟨fn,a.tmps,.inRegion ops (last::tl)::k⟩::os) y V):dl E (⟨fn,tm,.code (.region id ops true)::k⟩::os) wl V:=by
 refine dl.PS λt=>?_;simp only[a9,hm,bd,if_true];exact WS.sound (H8 O) (λa y h _=>(U a y h).2) _ t _ _ _ wl (l6.free wl) (l6.at wl _) h rfl
end
end
section
open Go.Conc
variable {p:Addr} {tm:Array Value} {v:Value}
structure xy(P:Program)(f:aL)(gH:Func)(s:Tmp)(ty:aR)(ops:Array Oper)(rest:Code):Prop where
 fn:P.funcs[f]?=some gH
 body:gH.body=some (.seq (.region 0 ops false) rest)
 name:gH.name≠ "runtime.NumGoroutine"
 two:∃q0 q1 a0 a1,ops=#[{dst:=some s,op:=.load ty (.tmp 0),type:=ty,pos:=q0,after:=a0,guard:=none},{dst:=none,op:=.defer {callee:=.builtin .close,args:=#[.tmp s],argTypes:=#[ty]},type:=0,pos:=q1,after:=a1,guard:=none}]
 load:∀(a:Addr)(v:Value)(w:World),w.cell? a=some v->(b2 ty (.pointer (some a)) >>= λv=>(pure (.value v):Sem Go.Next)).runT P w #[]=(.ok (.value v) w,#[⟨.cell a,false,false⟩])
def wi(P:Program):Frame:={(default:Frame)with fn:=P.funcs.size,defers:=[],mode:=.panicking [goexitEntry]}
section
variable {P:Program} {f:aL} {gH:Func} {s:Tmp} {ty:aR} {ops:Array Oper} {rest:Code}
def Dt(f:aL)(tm:Array Value)(td:List Item)(y:List Deferred):Frame:=⟨f,tm,td,y,.run,.deferred,none⟩
theorem C4(y:xy P f gH s ty ops rest)(cap:Array Value)(w:World):aN P false (kQ P ⟨.fn (.func f) cap,#[]⟩) w=.go (G (Dt f (cap++aC (gH.ntmps-cap.size) b3) [.code (.seq (.region 0 ops false) rest)] []) [wi P]) w #[]:=by
 have U:(gH.name == "runtime.NumGoroutine")=false:=by simpa using y.name
 have O:(invoke (.fn (.func f) cap) #[]).runT P w #[]=(.ok (.enter f cap) w,#[]):=by
  have e:invoke (.fn (.func f) cap) #[]=callFunc f _:=rfl;rw[e,aI];unfold callFunc;have W:∀k:Program->Sem Go.Next,(program >>= k).runT P w #[]=(k P).runT P w _:=λk=>rfl;rw[W];simp only[y.fn,U,y.body,ba,if_false,Option.isNone_some];rfl
 have Y:aN P false (kQ P ⟨.fn (.func f) cap,#[]⟩) w=aW P (wi P) [] none ⟨.fn (.func f) cap,#[]⟩ w:=rfl;rw[Y];unfold aW;simp only[O,Bool.false_and,ba,if_false];simp[bu,G,Dt,bp,y.fn,y.body,aU]
theorem DN(f:aL)(tm:Array Value)(td:List Item)(y:List Deferred):(Dt f tm td y).eval=iI tm:=by funext x; cases x<;>rfl
theorem DF(hc:xy P f gH s ty ops rest){w:World}{ps:Frame}(hq:(P.funcs[f]?).any (·.norace)=false)(hp:tm.getD 0 b3=.pointer (some p))(hv:w.cell? p=some v) :
  aN P false (G (Dt f tm [.inRegion ops [0,1],.code rest] []) [ps]) w=.go (G (Dt f (tm.setIfInBounds s v) [.inRegion ops [1],.code rest] []) [ps]) w #[⟨.cell p,false,false⟩]:=by
 obtain⟨W,q1,Y,a1,O⟩:=hc.two;have e:aN P false (G (Dt f tm [.inRegion ops [0,1],.code rest] []) [ps]) w=aY P false true (Dt f tm [.inRegion ops [0,1],.code rest] []) _ none w:=rfl;rw[e];have he:=DN f tm [.inRegion ops [0,1],.code rest] []
 have U:(aK (iI tm) {dst:=some s,op:=.load ty (.tmp 0),type:=ty,pos:=W,after:=Y,guard:=none}).runT P w #[]=(.ok (.value v) w,#[⟨.cell p,false,false⟩]):=by
  have e1:aK (iI tm) {dst:=some s,op:=.load ty (.tmp 0),type:=ty,pos:=W,after:=Y,guard:=none}=(b2 ty _ >>= λv=>pure _):=rfl;rw[e1];have e2:iI tm (.tmp 0)=.pointer _:=hp;rw[e2];exact hc.load p v w hv
 unfold aY;have y:ops[0]?=some {dst:=some s,op:=.load ty (.tmp 0),type:=ty,pos:=W,after:=Y,guard:=none}:=by rw[O]; rfl
 simp only[Dt,y,bx,bv];rw[if_pos (by simp[a5])];unfold aZ;simp only[bs,y];have aa:bt ⟨f,tm,[.inRegion ops _,.code rest],[],.run,.deferred,none⟩=iI tm:=he;rw[aa];unfold aX;simp only[if_true,U];simp[bu,G,br,y,aU,hq]
def Q4(s:Tmp):Array Bool:=(#[Operand.tmp s]).map fun|.const _=>true|_=>false
theorem Cy(hc:xy P f gH s ty ops rest){w:World}{ps:Frame}(hs:tm.getD s b3=v):aN P false (G (Dt f tm [.inRegion ops [1],.code rest] []) [ps]) w=.go (G (Dt f tm [.inRegion ops [],.code rest] [⟨.builtin .close #[ty] 0 (Q4 s),#[v]⟩]) [ps]) w #[]:=by
 obtain⟨q0,W,a0,a1,O⟩:=hc.two;have e:aN P false (G (Dt f tm [.inRegion ops [1],.code rest] []) [ps]) w=aY P false true (Dt f tm [.inRegion ops [1],.code rest] []) _ none w:=rfl;have he:=DN f tm [.inRegion ops [1],.code rest] []
 have U:(aK (iI tm) {dst:=none,op:=.defer {callee:=.builtin .close,args:=#[.tmp s],argTypes:=#[ty]},type:=0,pos:=W,after:=a1,guard:=none}).runT P w #[]=(.ok (.defer ⟨.builtin .close #[ty] 0 (Q4 s),#[v]⟩) w,#[]):=by
  have ha:(#[Operand.tmp s]).map (iI tm)=#[v]:=by simp[iI,Act.eval,<-hs]
  have e1:aK (iI tm) {dst:=none,op:=.defer {callee:=.builtin .close,args:=#[.tmp s],argTypes:=#[ty]},type:=0,pos:=W,after:=a1,guard:=none}=pure _:=rfl;rw[e1,ha];rfl
 rw[e];unfold aY;have y:ops[1]?=some {dst:=none,op:=.defer {callee:=.builtin .close,args:=#[.tmp s],argTypes:=#[ty]},type:=0,pos:=W,after:=a1,guard:=none}:=by rw[O]; rfl
 simp only[Dt,y,bx,bv];rw[if_pos (by simp[a5])];unfold aZ;simp only[bs,y];have Y:bt ⟨f,tm,[.inRegion ops _,.code rest],[],.run,.deferred,none⟩=iI tm:=he;rw[Y];unfold aX;simp only[if_true,U];simp[bu,G,br,y,aU]
theorem zU{J:mK}{m:Ren}{S:LS}{cap y:Array Value}(hc:xy P f gH s ty ops rest)(hq:(P.funcs[f]?).any (·.norace)=false)(ag:l5 P m J.gl false)(Y:¬m.ic)(ah:Open m)(hJ:J.Ren m)(hT:J.T=[wi P])(O:ed m cap y)(ai:cap[0]?=some (.pointer (some p)))(au:s≠0)(hs:s<gH.ntmps)(hn:cap.size<=gH.ntmps)(aj:S.w.cell? p=some (.chan (some J.r)))(ak:fD m.ok rest)
  (hS:S.fr=⟨f,(cap++aC (gH.ntmps-cap.size) b3).setIfInBounds s (.chan (some J.r)),[.code rest],[⟨.collected J.rd,#[.chan (some J.r)]⟩],.run,.normal,none⟩) (aa:S.cs=[door P]):qB P J m S 5 (kQ P ⟨.fn (.func f) y,#[]⟩):=by
 have av:∀w:World,w.at w.drawn=w:=λw=>rfl;obtain⟨q',ab,al⟩:=O.get ai
 have am:∃p',q'=.pointer (some p')/\AR m p p':=by
  cases al with
  |ptr ha=>exact⟨_,rfl,ha⟩
 obtain⟨p',rfl,ac⟩:=am
 have ad:(y++aC (gH.ntmps-y.size) b3).getD 0 b3=.pointer (some p'):=by
  have an:0<y.size:=(aE.1 ab).1;rw[aF,Array.getElem?_append_left an,ab];rfl
 have W:∀w,WR m S.w w->w.cell? p'=some (.chan (some J.c)):=by
  intro w U;obtain⟨v',ao,ap⟩:=U.cell ac aj
  cases ap with
  |chan hb=>
   rw[hJ.ch]at hb;cases hb;exact ao
 have aq:y.size=cap.size:=O.size.symm;refine⟨rfl,λw U=>⟨_,w.drawn,#[],C4 hc y w,by simp,?_⟩⟩;refine⟨rfl,λw U=>⟨G (Dt f (y++aC (gH.ntmps-y.size) b3) [.code (.region 0 ops false),.code rest] []) [wi P],w.drawn,#[],rfl,by simp,?_⟩⟩;refine⟨rfl,λw U=>⟨G (Dt f (y++aC (gH.ntmps-y.size) b3) [.inRegion ops [0,1],.code rest] []) [wi P],w.drawn,#[],?_,by simp,?_⟩⟩
 .obtain⟨q0,q1,a0,a1,ae⟩:=hc.two;have:bk ops.size=[0,1]:=by rw[ae]; rfl
  show aY P false true (Dt f (y++aC (gH.ntmps-y.size) b3) [.code (.region 0 ops false),.code rest] []) [wi P] none w=_;unfold aY;simp[Dt,G,this];rfl
 refine⟨rfl,λw U=>⟨_,w.drawn,_,DF (ps:=wi P) hc hq ad (W w U),?_,?_⟩⟩
 .intro e he;simp only[List.mem_toArray,bf,be,or_false]at he;subst he;exact⟨rfl,p,ac,λh=>by cases h⟩
 have af:((y++aC (gH.ntmps-y.size) b3).setIfInBounds s (.chan (some J.c))).getD s b3=.chan (some J.c):=by
  have hz:(y++aC (gH.ntmps-y.size) b3).size=gH.ntmps:=by simp; omega
  have:s<(y++aC (gH.ntmps-y.size) b3).size:=by rw[hz]; exact hs
  rw[aF,Array.getElem?_setIfInBounds_self_of_lt this];rfl
 have ar:=λw=>Cy (ps:=wi P) (w:=w) hc af;refine⟨rfl,λw U=>⟨_,w.drawn,#[],ar w,by simp,?_⟩⟩;refine⟨rfl,λw U=>⟨Dt f _ _ _,[wi P],w.drawn,#[],rfl,by simp,?_⟩⟩;refine⟨ag,Y,ah,?_,U.at _⟩;rw[aa,hS,hT];refine .one ⟨rfl,?_,.cons (.code rest ak) .nil,.cons ⟨.mark _ _ _ hJ.dead,.one (.chan hJ.ch)⟩ .nil,.run,.none⟩ rfl (.inr ⟨rfl,wi P,rfl,rfl⟩) rfl;rw[aq];exact(O.append (.replicate _ (.undef m))).set s (.chan hJ.ch)
end
end
section
open Go.Conc
variable {c:Array Value} {caps:List Nat} {r:Nat}
structure Ren.yT(m m':Ren):Prop where
 blk:m'.blk=m.blk
 ch:m'.ch=m.ch
 ok:m'.ok=m.ok
 fq:m'.fq=m.fq
 ic:m'.ic=m.ic
 dead:m'.dead=m.dead
 dm:m'.dm=m.dm
 G:m'.G=m.G
 rB:m'.rB=m.rB
section
variable {m m':Ren}
theorem AR.jJ(h:m.yT m'){a y:Addr}(x:AR m a y):AR m' a y:=by cases x with|mk hb=>exact .mk (by rw[h.blk]; exact hb)
theorem Ma.jJ(h:m.yT m'){a y:Fn}(x:Ma m a y):Ma m' a y:=by
 cases x with
 |func f O=>exact .func f (by rw[h.fq]; exact O)
 |yield hb=>exact .yield (by rw[h.blk]; exact hb)
theorem VR.jJ(h:m.yT m'){v Y:Value}(x:VR m v Y):VR m' v Y:=by
 induction x with
 |fJ v hv=>exact .fJ v hv
 |qn y _ U O=>exact .qn y O U
 |bool|int|string|gJ|fl|mw|iS|nilFunc|nilIface=>constructor
 |ptr W=>exact .ptr (W.jJ h)
 |slice l c W=>exact .slice l c (W.jJ h)
 |map hb=>exact .map (by rw[h.blk]; exact hb)
 |gone hd=>rw[<-h.dm]; exact .gone (by rw[h.dead]; exact hd)
 |chan hb=>exact .chan (by rw[h.ch]; exact hb)
 |func hf y _ U _ i1 i2=>exact .func (hf.jJ h) y i1 U i2
 |iface t _ O=>exact .iface t O
 |agg y _ O=>exact .agg y O
 |tuple y _ O=>exact .tuple y O
theorem ed.jJ(h:m.yT m'){y:Array Value}(x:ed m c y):ed m' c y:=dP.mono (λ_ _=>VR.jJ h) x
theorem TR.jJ(h:m.yT m'){a O:Target}(x:TR m a O):TR m' a O:=by
 cases x with
 |fn U=>exact .fn (U.imp (λy=>⟨y.1.jJ h,y.2.jJ h⟩) id)
 |nil=>exact .nil
 |builtin a t c hm=>exact .builtin a t c (by rw[h.ic]; exact hm)
 |mark a t c W=>exact .mark a t c (by rw[h.dead]; exact W)
 |collected hb=>exact .collected (by rw[h.blk]; exact hb)
theorem DR.jJ(h:m.yT m'){a y:Deferred}(x:DR m a y):DR m' a y:=⟨x.target.jJ h,x.args.jJ h⟩
theorem su.jJ(h:m.yT m'){a y:MapEntry}(x:su m a y):su m' a y:=⟨x.key.jJ h,x.val.jJ h,x.born⟩
theorem vE.jJ(h:m.yT m'){a y:Loop}(x:vE m a y):vE m' a y:=
 ⟨x.state,x.pending,λc O=>by rw[h.ok]; exact x.Su c O,x.fn,x.tmps.jJ h,x.params,x.assign,x.body,by rw[h.ok]; exact x.RR,by rw[h.ok]; exact x.wN,by rw[h.blk]; exact x.defers⟩
theorem OR.jJ(h:m.yT m'){a O:Obj}(x:OR m a O):OR m' a O:=by
 cases x with
 |cells e f f' U=>exact .cells e f f' (U.jJ h)
 |map clock W=>exact .map clock (dP.mono (λ_ _ y=>y.jJ h) W)
 |number l Y=>exact .number l (Y.jJ h)
 |stringIter s p=>exact .stringIter s p
 |fT a b c=>exact .fT a b c
 |mapIter a b c hb=>exact .mapIter a b c (by rw[h.blk]; exact hb)
 |loop hl=>exact .loop (hl.jJ h)
 |eR=>exact .eR
 |deferred hd=>exact .deferred (dP.mono (λ_ _ y=>y.jJ h) hd)
theorem nF.jJ(h:m.yT m'){T:List Frame}{os:List OF}{l:List Frame}(x:nF m T os l):nF m' T os l:=by
 induction x with
 |nil=>exact .nil
 |cons y _ O=>exact .cons (y.jJ h) O
end
def Nu:Obj->Obj
 |.cells c e _=>.cells c e (0,c.size)
 |o=>o
def s8(w:World)(caps:List Nat):World:={w with heap:=w.heap.mapIdx λi o=>if i∈caps then Nu o else o}
def Ren.Ab(m:Ren)(caps:List Nat):Ren:={m with loose:=λr=>m.loose r\/r∈caps}
theorem Ren.B9(m:Ren)(caps:List Nat):m.yT (m.Ab caps):=⟨rfl,rfl,rfl,rfl,rfl,rfl,rfl,rfl,rfl⟩
theorem wV(w:World)(caps:List Nat)(r:Nat):(s8 w caps).heap[r]?=(w.heap[r]?).map λo=>if r∈caps then Nu o else o:=by
 unfold s8;simp only[Array.getElem?_mapIdx]
theorem tK(w:World)(caps:List Nat):(s8 w caps).heap.size=w.heap.size:=by simp[s8]
theorem po(w:World)(h:r ∉ caps):(s8 w caps).heap[r]?=w.heap[r]?:=by
 rw[wV];cases w.heap[r]?<;>simp[h]
theorem yB(w:World)(h:r∈caps){e:aR}{f:Nat×Nat}(y:w.heap[r]?=some (.cells c e f)):(s8 w caps).heap[r]?=some (.cells c e (0,c.size)):=by
 rw[wV,y];simp[h,Nu]
theorem WR.Ab{m:Ren}{wl w:World}(h:WR m wl w)(hc:∀r∈caps,∃c e f,wl.heap[r]?=some (.cells c e f))(hd:∀r∈caps,¬m.dead r):WR (m.Ab caps) (s8 wl caps) w:=by
 have jJ:=m.B9 caps
 have back:∀r c e f,(s8 wl caps).heap[r]?=some (.cells c e f)->∃f0,wl.heap[r]?=some (.cells c e f0)/\(r ∉ caps->f0=f)/\(r∈caps->f=(0,c.size)):=by
  intro r c e f Y;by_cases O:r∈caps
  .obtain⟨c0,e0,f0,U⟩:=hc r O;rw[yB wl O U]at Y;cases Y;exact⟨f0,U,λx=>absurd O x,λ_=>rfl⟩
  .rw[po wl O]at Y;exact⟨f,Y,λ_=>rfl,λx=>absurd x O⟩
 refine⟨λr r' hb=>?_,λr r' c e f c' e' f' hb h1 h2 hn=>?_,λr r' c e f c' e' f' hb h1 h2 hl=>?_,λr r' hb=>?_,?_,h.Jd,h.os,λr o ho=>?_,λr r' hb hl=>?_,λr Y=>?_,λr i v hv=>?_⟩
 .obtain⟨o,o',g1,g2,g3⟩:=h.obj r r' hb;by_cases O:r∈caps
  .obtain⟨c0,e0,f0,U⟩:=hc r O;rw[U]at g1;cases g1
   cases g3 with
   |cells _ _ f' aa=>exact⟨_,_,yB wl O U,g2,.cells _ _ _ (aa.jJ jJ)⟩
  .exact⟨o,o',by rw[po wl O]; exact g1,g2,g3.jJ jJ⟩
 .obtain⟨f0,U,x,_⟩:=back r c e f h1;have W:=λy=>hn (.inr y);rw[<-x W];exact h.fz r r' c e f0 c' e' f' hb U h2 λy=>hn (.inl y)
 .obtain⟨f0,U,x,y⟩:=back r c e f h1;by_cases O:r∈caps
  .rw[y O];exact λo ho=>⟨bo _,ho⟩
  .rw[<-x O];exact h.all r r' c e f0 c' e' f' hb U h2 (hl.resolve_right O)
 .have:=h.LW r r' hb;exact⟨by rw[tK]; exact this.1,this.2⟩
 .rw[tK]; exact h.LX
 .obtain⟨g1,g2⟩:=h.kD r o ho;refine⟨?_,g2⟩
  have W:r ∉ caps:=λO=>by
   obtain⟨c0,e0,f0,U⟩:=hc r O;obtain⟨a,b,c,d,e,f,rfl⟩:=g2;rw[U]at g1;cases g1
  rw[po wl W]; exact g1
 .by_cases O:r∈caps
  .obtain⟨c0,e0,f0,U⟩:=hc r O;exact⟨_,_,_,yB wl O U⟩
  .obtain⟨c0,e0,f0,U⟩:=h.lk r r' hb (hl.resolve_right O);exact⟨_,_,_,by rw[po wl O]; exact U⟩
 .obtain⟨g1,c0,e0,f0,g⟩:=h.dead r Y;have W:=λO=>hd r O Y;exact⟨g1,c0,e0,f0,by rw[po wl W]; exact g⟩
 .obtain⟨r',hb,hp⟩:=h.rB r i v hv;refine⟨r',hb,λc e f c' e' f' x g1 g2=>?_⟩;obtain⟨f0,U,_,_⟩:=back r c e f g1;exact hp c e f0 c' e' f' x U g2
end
section
open Go.Conc
variable {c i:Nat} {B:Nat->Nat} {M:Option Nat}
def RU:Obj:=.cells #[] 0 (0,0)
def JB(C:Nat->Obj)(ch ex:Obj):Array Obj:=#[RU,RU,RU,RU,RU,C 0,C 1,C 2,C 3,RU,ch,ex]
def Ik(B:Nat->Nat)(M:Option Nat)(r:Nat):Option Nat:=if 5<=r/\r<9 then some (B (r-5))else if r=11 then M else none
structure Tg(B:Nat->Nat)(M:Option Nat):Prop where
 low:∀i,i<4->5<=B i
 inj:∀i j,i<4->j<4->B i=B j->i=j
 Tx:∀b,M=some b->5<=b
 TD:∀b i,M=some b->i<4->B i≠b
theorem gQ{r b:Nat}(h:Ik B M r=some b):(∃i,i<4/\r=5+i/\b=B i)\/(r=11/\M=some b):=by
 unfold Ik at h;split at h
 .exact .inl ⟨r-5,by omega,by omega,(Option.some.inj h).symm⟩
 .split at h
  .rename_i y; exact .inr ⟨y,h⟩
  .cases h
theorem Lk(B:Nat->Nat)(M:Option Nat)(hi:i<4):Ik B M (5+i)=some (B i):=by
 unfold Ik;rw[if_pos (by omega)];congr 2;omega
def zR{B:Nat->Nat}{M:Option Nat}(h:Tg B M)(c:Nat)(ch:Obj):Ren where
 blk:=Ik B M
 ch:=λr=>if r=10 then some c else none
 loose:=λr=>5<=r/\r<9
 ok:=NA prog sW CQ false
 fq:=λf=>sW f=true
 ic:=False
 dead:=λr=>r=9
 dm:=λ_=>0
 rB:=λ_ _=>none
 kD:=λr=>if r=10 then some ch else none
 G:=5
 nZ:=λr r' y=>by
  rcases gQ y with⟨i,hi,rfl,rfl⟩|⟨rfl,O⟩
  .have:=h.low i hi
   constructor<;>intro x<;>omega
  .have:=h.Tx r' O
   constructor<;>intro x<;>omega
 inj:=λr s t y U=>by
  rcases gQ y with⟨i,hi,rfl,rfl⟩|⟨rfl,O⟩
  .rcases gQ U with⟨j,W,rfl,e⟩|⟨rfl,O⟩
   .rw[h.inj i j hi W e]
   .exact absurd rfl (h.TD _ i O hi)
  .rcases gQ U with⟨j,W,rfl,rfl⟩|⟨rfl,_⟩
   .exact absurd rfl (h.TD _ j O W)
   .rfl
 uJ:=λr s t y U=>by
  split at y
  .split at U
   .rename_i Y e2; rw[Y,e2]
   .cases U
  .cases y
theorem MR(h:Tg B M)(c:Nat)(ch:Obj):l5 prog (zR h c ch) (λg=>CQ g=true) false:=Pk rfl rfl rfl
theorem A6(C:Nat->Obj)(ch ex:Obj)(hi:i<4):(JB C ch ex)[5+i]?=some (C i):=by
 match i,hi with
 |0,_=>rfl
 |1,_=>rfl
 |2,_=>rfl
 |3,_=>rfl
theorem WR.R3(h:Tg B M){C:Nat->Obj}{cap:Nat}{ex:Obj}{W w:World}(U:W.heap=JB C (.chan cap #[] false 0 0 false) ex)(ab:w.os=W.os)(ac:5<=w.heap.size)(hc:c<w.heap.size)
  (O:∀i,i<4->∃a Y e f',C i=.cells a e (0,a.size)/\w.heap[B i]?=some (.cells Y e f')/\ed (zR h c (.chan cap #[] false 0 0 false)) a Y)
  (hM:∀b,M=some b->∃o',w.heap[b]?=some o'/\OR (zR h c (.chan cap #[] false 0 0 false)) ex o'/\∀a e f,ex≠.cells a e f):WR (zR h c (.chan cap #[] false 0 0 false)) W w:=by
 have get:∀i,i<4->W.heap[5+i]?=some _:=λi hi=>by rw[U]; exact A6 C _ ex hi
 have aa:W.heap[11]?=some ex:=by rw[U]; rfl
 refine⟨λr r' y=>?_,λr r' c1 e1 f1 c2 e2 f2 y h1 h2 hn=>?_,λr r' c1 e1 f1 c2 e2 f2 y h1 h2 hl=>?_,λr r' y=>?_,(by rw[U]; show 5<=12; omega),ac,ab,λr o y=>?_,λr r' y hl=>?_,λr y=>?_,λr i v hv=>(by cases hv)⟩
 .rcases gQ y with⟨i,hi,rfl,rfl⟩|⟨rfl,hm⟩
  .obtain⟨a,Y,e,f',x1,x2,x3⟩:=O i hi;exact⟨_,_,by rw[get i hi,x1],x2,.cells e _ f' x3⟩
  .obtain⟨o',x1,x2,_⟩:=hM r' hm;exact⟨_,_,aa,x1,x2⟩
 .rcases gQ y with⟨i,hi,rfl,rfl⟩|⟨rfl,hm⟩
  .exact absurd (show(zR h c _).loose _ from⟨by omega,by omega⟩) hn
  .rw[aa]at h1;obtain⟨_,_,_,x⟩:=hM r' hm;cases h1;exact absurd rfl (x _ _ _)
 .rcases gQ y with⟨i,hi,rfl,rfl⟩|⟨rfl,hm⟩
  .obtain⟨a,Y,e,f',x1,x2,x3⟩:=O i hi;rw[get i hi,x1]at h1;cases h1;exact λo ho=>⟨bo _,ho⟩
  .exact absurd hl.2 (by omega)
 .have y:(if r=10 then some c else none)=some r':=y;split at y
  .rename_i e;cases y;exact⟨by rw[U,e]; show 10<12; omega,hc⟩
  .cases y
 .have y:(if r=10 then some _ else none)=some o:=y;split at y
  .rename_i e;cases y;exact⟨by rw[U,e]; rfl,_,_,_,_,_,_,rfl⟩
  .cases y
 .rcases gQ y with⟨i,hi,rfl,rfl⟩|⟨rfl,hm⟩
  .obtain⟨a,Y,e,f',x1,x2,x3⟩:=O i hi;exact⟨_,_,_,by rw[get i hi,x1]⟩
  .exact absurd hl.2 (by omega)
 .have e:=y;subst e;exact⟨by simp[zR,Ik],_,_,_,by rw[U]; rfl⟩
def NJ(P:Program)(f:aL)(L:List Value)(y:World->Prop)(S:LS):Prop:=S.cs=[door P]/\S.fr.mode=.returning/\S.fr.defers=[⟨.collected 9,#[.chan (some 10)]⟩]/\S.fr.fn=f/\Holds S 10 L/\y S.w
def RH(P:Program)(f:aL)(L:List Value)(c:Nat)(y:World->Prop)(lh:Nat->Nat->Obj->Prop):mK where
 gl:=λg=>CQ g=true
 T:=[wi P]
 Stop:=NJ P f L y
 r:=10
 c:=c
 rd:=9
 L:=L
 lh:=lh
theorem Qm{f:aL}{L:List Value}{y:World->Prop}{lh:Nat->Nat->Obj->Prop}{gH:Func}(hf:prog.funcs[f]?=some gH)(hr:gH.results=#[])(hn:gH.norace=false)(hb:∀w τ,y (tp w τ)->y w)(hk:∀w,y w->∀r b o,lh r b o->w.heap[r]?=some o/\∀(m:Ren)o',OR m o o'->o'=o):(RH prog f L c y lh).Ok prog where
 blind:=λS τ ⟨O,U,W,Y,h5,h6⟩=>⟨O,U,W,Y,h5,hb _ _ h6⟩
 holds:=λS h=>h.2.2.2.2.1;Tb:=λS ⟨O,U,W,Y,_⟩=>⟨O,U,W,gH,by rw[Y]; exact hf,hr,hn⟩;back:=λS h r b o x=>hk S.w h.2.2.2.2.2 r b o x
 TI:=⟨wi prog,rfl,rfl,rfl,by
  show prog.funcs[prog.funcs.size]?=none
  simp,rfl⟩
end
section
open Go.Conc
variable {m:Ren}
def wE(b:Nat->Nat):Array Value:=#[.pointer (some ⟨b 0,0,none⟩),.pointer (some ⟨b 1,0,none⟩),.pointer (some ⟨b 2,0,none⟩),.pointer (some ⟨b 3,0,none⟩)]
theorem Nb(b:Nat->Nat){i:Nat}(hi:i<4):(wE b)[i]?=some (.pointer (some ⟨b i,0,none⟩)):=by
 match i,hi with
 |0,_=>rfl
 |1,_=>rfl
 |2,_=>rfl
 |3,_=>rfl
theorem NT{b B:Nat->Nat}(h:∀i,i<4->m.blk (b i)=some (B i)):ed m (wE b) (wE B):=
 .cons (.ptr (.mk (h 0 (by omega)))) (.cons (.ptr (.mk (h 1 (by omega)))) (.cons (.ptr (.mk (h 2 (by omega)))) (.cons (.ptr (.mk (h 3 (by omega)))) .nil)))
theorem M3{b:Nat->Nat}{y:Array Value}(h:ed m (wE b) y):∃B:Nat->Nat,y=wE B/\∀i,i<4->m.blk (b i)=some (B i):=by
 have O:=h.size
 have get:∀i,i<4->∃B,y[i]?=some (.pointer (some ⟨B,0,none⟩))/\m.blk (b i)=some B:=by
  intro i hi;obtain⟨v',U,W⟩:=h.get (Nb b hi)
  cases W with
  |ptr Y=>
   cases Y with
   |mk hb=>exact⟨_,U,hb⟩
 obtain⟨B0,a0,e0⟩:=get 0 (by omega);obtain⟨B1,a1,e1⟩:=get 1 (by omega);obtain⟨B2,a2,e2⟩:=get 2 (by omega);obtain⟨B3,a3,e3⟩:=get 3 (by omega);refine⟨λi=>match i with|0=>B0|1=>B1|2=>B2|_=>B3,?_,λi hi=>?_⟩
 .apply Array.ext_getElem?;intro i
  match i with
  |0=>rw[a0]; rfl
  |1=>rw[a1]; rfl
  |2=>rw[a2]; rfl
  |3=>rw[a3]; rfl
  |i+4=>
   have:y.size=4:=O.symm;rw[aD (by omega),aD (by show 4<=i+4; omega)]
 .match i,hi with
  |0,_=>exact e0
  |1,_=>exact e1
  |2,_=>exact e2
  |3,_=>exact e3
theorem Rg.Ab{P:Program}{E E₂:Env P}(h:Rg E m)(caps:List Nat)(y:∀m:Ren,m.ok=E₂.ok->m.fq=E₂.fq->m.G=P.globals.size->l5 P m E₂.gl E₂.st)(O:E₂.fq=E.fq)(U:E₂.ok=E.ok)(W:E₂.X (m.Ab caps)):Rg E₂ (m.Ab caps):=
 ⟨y _ (h.QS.trans U.symm) (h.fq.trans O.symm) h.pg.env.G,h.ic,h.ml,h.fq.trans O.symm,h.QS.trans U.symm,W⟩
structure TL(E E₂:Env prog)(wl:World)(rc:Nat)(b:Nat->Nat)(cm cd:Nat->Array Value)(te:Nat->aR)(fz:Nat->Nat×Nat)(M:Option Nat)(ex:Obj):Prop where
 z:E₂.Z=E.Z
 t:E₂.T=E.T
 w:E₂.w0=E.w0
 fq:E₂.fq=E.fq
 ok:E₂.ok=E.ok
 pg:∀m:Ren,m.ok=E₂.ok->m.fq=E₂.fq->m.G=prog.globals.size->l5 prog m E₂.gl E₂.st
 x:∀m,Rg E m->E₂.X (m.Ab [b 0,b 1,b 2,b 3])
 fix:∀q,E₂.fx q↔E.fx q/\M≠some q
 low:∀i,i<4->5<=b i
 inj:∀i j,i<4->j<4->b i=b j->i=j
 cells:∀i,i<4->wl.heap[b i]?=some (.cells (cm i) (te i) (fz i))
 live:∀m,Rg E m->∀i,i<4->¬m.dead (b i)
 m0:cm 0=#[.chan (some rc)]
 d0:cd 0=#[.chan (some 10)]
 conv:∀i,1<=i->i<4->∀(m mi:Ren)w a',Rg E m->WR m wl w->(∀q,M=some q->mi.blk 11=some q)->ed m (cm i) a'->ed mi (cd i) a'
 map:∀q,M=some q->5<=q/\E.fx q/\E.w0.heap[q]?=some ex/\(∀m:Ren,OR m ex ex)/\(∀(m:Ren)o',OR m ex o'->o'=ex)/\(∀a e f,ex≠.cells a e f)/\∀(m:Ren)(r:Nat)(o:Obj),wl.heap[r]?=some o->¬OR m o ex
def s6(wl:World)(cd:Nat->Array Value)(te:Nat->aR)(cap:Nat)(ex:Obj):World:={wl with heap:=JB (λi=>.cells (cd i) (te i) (0,(cd i).size)) (.chan cap #[] false 0 0 false) ex}
def uT(f:aL)(n:Nat)(s:Tmp)(rest:Code):Frame:=⟨f,(wE (λi=>5+i)++aC (n-4) b3).setIfInBounds s (.chan (some 10)),[.code rest],[⟨.collected 9,#[.chan (some 10)]⟩],.run,.normal,none⟩
theorem FH{E E₂:Env prog}{f:aL}{gH:Func}{s:Tmp}{ty:aR}{ops:Array Oper}{rest:Code}{wl:World}{rc:Nat}{b:Nat->Nat}{cm cd:Nat->Array Value}{te:Nat->aR}{fz:Nat->Nat×Nat}{M:Option Nat}{ex:Obj}{L:List Value}{cap:Nat}{os:List OF}
  (hc:xy prog f gH s ty ops rest) (ao:gH.results=#[]) (ap:gH.norace=false) (aw:s≠0) (hs:s<gH.ntmps) (hn:4<=gH.ntmps) (ax:jq (λo=>Du prog sW CQ false o.op) rest=true) (hL:∀v∈L,Flat v) (y:TL E E₂ wl rc b cm cd te fz M ex)
  (aq:∀τ,∃n W,runN prog n (aV (uT f gH.ntmps s rest) [door prog] (tp (s6 wl cd te cap ex) τ))=.next (LS.m W)/\NJ prog f L (λw=>M=none\/w.heap[11]?=some ex) W) :
  Sends E E₂ f (wE b) os os wl (s8 wl [b 0,b 1,b 2,b 3]) rc L:=by
 refine⟨y.z,y.t,y.w,λq Y=>((y.fix q).1 Y).1,λv hv=>(hL v hv).eq,λm ay w c aa af hw az ar ab=>?_⟩;obtain⟨B,rfl,hB⟩:=M3 af;have hG:m.G=5:=by rw[aa.pg.env.G,vz]
 have ag:∀r,r∈[b 0,b 1,b 2,b 3]↔∃i,i<4/\r=b i:=by
  intro r;constructor
  .intro h;simp only[bf,be,or_false]at h;rcases h with h|h|h|h
   .exact⟨0,by omega,h⟩
   .exact⟨1,by omega,h⟩
   .exact⟨2,by omega,h⟩
   .exact⟨3,by omega,h⟩
  .rintro⟨i,hi,rfl⟩
   match i,hi with
   |0,_=>simp
   |1,_=>simp
   |2,_=>simp
   |3,_=>simp
 have ah:∀q,M=some q->∀r,m.blk r≠some q:=by
  intro q Y r O;obtain⟨_,U,h3,_,_,_,h7⟩:=y.map q Y;obtain⟨o,o',e1,e2,e3⟩:=hw.obj r q O;rw[ab q U,h3]at e2;cases e2;exact h7 m r o e1 e3
 have hS:Tg B M:=by
  refine⟨λi hi=>?_,λi j hi hj e=>?_,λq Y=>(y.map q Y).1,λq i Y hi e=>?_⟩
  .have:=(m.nZ (b i) (B i) (hB i hi)).2;rw[hG]at this;have h5:=y.low i hi;apply Classical.byContradiction;intro hx;have:=this (by omega);omega
  .exact y.inj i j hi hj (m.inj _ _ _ (hB i hi) (e▸hB j hj))
  .exact ah q Y (b i) (e▸hB i hi)
 let mi:=zR hS c (.chan cap #[] false 0 0 false);have ac:∀q,M=some q->mi.blk 11=some q:=λq Y=>by simp[mi,zR,Ik,Y]
 have ad:mi.ch 10=some c:=by simp[mi,zR]
 have au:c<w.heap.size:=by
  obtain⟨s,r,hx⟩:=ar;exact jE hx
 have ai:∀i,i<4->∃a',∃f',w.heap[B i]?=some (.cells a' (te i) f')/\ed m (cm i) a':=by
  intro i hi;obtain⟨o,o',h1,U,h3⟩:=hw.obj (b i) (B i) (hB i hi);rw[y.cells i hi]at h1;cases h1
  cases h3 with
  |cells _ _ f' ha=>exact⟨_,f',U,ha⟩
 have aj:∀i,i<4->∀a',ed m (cm i) a'->ed mi (cd i) a':=by
  intro i hi a' ha;by_cases h0:i=0
  .subst h0;rw[y.m0]at ha;rw[y.d0];obtain⟨al⟩:=a';unfold ed at ha⊢;simp only at ha⊢
   cases ha with
   |cons hv hn=>
    cases hn
    cases hv with
    |chan hb=>
     rw[az]at hb;cases hb;exact .cons (.chan ad) .nil
  .exact y.conv i (by omega) hi m mi w a' aa hw ac ha
 have a0:WR mi (s6 wl cd te cap ex) w:=by
  refine WR.R3 (C:=λi=>.cells (cd i) (te i) (0,(cd i).size)) (ex:=ex) hS rfl hw.os (by have:=hw.Jd; omega) au (λi hi=>?_) (λq Y=>?_)
  .obtain⟨a',f',h1,U⟩:=ai i hi;exact⟨cd i,a',te i,f',rfl,h1,aj i hi a' U⟩
  .obtain⟨_,U,h3,h4,_,h6,_⟩:=y.map q Y;exact⟨ex,by rw[ab q U,h3],h4 mi,h6⟩
 have ak:∀r r',mi.ch r=some r'->r=10:=by
  intro r r' O;have O:(if r=10 then some c else none)=some r':=O;split at O
  .rename_i e; exact e
  .cases O
 have av:=MR hS c (.chan cap #[] false 0 0 false)
 have ae:(RH prog f L c (λw=>M=none\/w.heap[11]?=some ex) (λr q o=>r=11/\M=some q/\o=ex)).Ren mi:=
  ⟨ad,ak,rfl,λr q o ⟨h1,U,_⟩=>by rw[h1]; exact ac q U⟩
 have am:Open mi:=λr r' O=>by
  have O:(if r=10 then some c else none)=some r':=O;split at O
  .rename_i e;exact⟨cap,#[],0,0,false,by simp[mi,zR,e]⟩
  .cases O
 let S:LS:=⟨uT f gH.ntmps s rest,[door prog],s6 wl cd te cap ex⟩;have an:=m.B9 [b 0,b 1,b 2,b 3];refine⟨RH prog f L c (λw=>M=none\/w.heap[11]?=some ex) (λr q o=>r=11/\M=some q/\o=ex),mi,S,5,m.Ab [b 0,b 1,b 2,b 3],rfl,rfl,Qm hc.fn ao ap (λw τ h=>h) (λw hk r q o ⟨h1,U,h3⟩=>?_),ae,λτ _=>?_,?_,a0,?_,aa.Ab _ y.pg y.fq y.ok (y.x m aa),hw.Ab (λr O=>?_) (λr O=>?_),rfl,λl hl=>hl.jJ an,λr q O=>⟨r,O,λh=>.inl h⟩,λr q O=>?_,λr r' q h1 U=>?_,λr q O hf=>?_,λq Y=>?_⟩
 .subst h1 h3;obtain⟨_,_,_,_,h5,_⟩:=y.map q U;exact⟨hk.resolve_left (by rw[U]; simp),h5⟩
 .obtain⟨n,W,h1,U⟩:=aq τ;exact⟨n,W,h1,U,by rw[U.1]; simp⟩
 .exact⟨cap,#[],0,0,false,rfl,rfl⟩
 .refine zU (cap:=wE λi=>5+i) (p:=⟨5,0,none⟩) hc (by rw[hc.fn]; simp[ap]) av (λh=>h) am ae rfl (NT λi hi=>Lk B M hi) rfl aw hs hn ?_ (mU ax) rfl rfl;show(s6 wl cd te cap ex).cell? ⟨5,0,none⟩=_
  have hg:(s6 wl cd te cap ex).heap[5]?=some (.cells #[.chan (some 10)] (te 0) (0,1)):=by
   show(JB _ _ _)[5]?=_;rw[show(5:Nat)=5+0 from rfl,A6 _ _ _ (by omega:(0:Nat)<4),y.d0];rfl
  unfold World.cell?;simp only[hg];rfl
 .obtain⟨i,hi,rfl⟩:=(ag r).1 O;exact⟨_,_,_,y.cells i hi⟩
 .obtain⟨i,hi,rfl⟩:=(ag r).1 O;exact y.live m aa i hi
 .rcases gQ O with⟨i,hi,rfl,rfl⟩|⟨rfl,hm⟩
  .exact .inl ⟨b i,hB i hi,λ_=>⟨by omega,by omega⟩⟩
  .obtain⟨_,U,_,_,_,_,h7⟩:=y.map q hm;exact .inr ⟨U,ah q hm,λhx=>((y.fix q).1 hx).2 hm⟩
 .rcases gQ U with⟨i,hi,rfl,rfl⟩|⟨rfl,hm⟩
  .have:=m.inj _ _ _ h1 (hB i hi);exact⟨.inr ((ag r).2 ⟨i,hi,this⟩),by omega,by omega⟩
  .exact absurd h1 (ah q hm r)
 .rcases gQ O with⟨i,hi,rfl,rfl⟩|⟨rfl,hm⟩
  .exact⟨by omega,by omega⟩
  .exact absurd hm ((y.fix q).1 hf).2
 .by_cases hm:M=some q
  .exact .inr ⟨11,ex,⟨rfl,hm,rfl⟩,(y.map q hm).2.2.1⟩
  .exact .inl ((y.fix q).2 ⟨Y,hm⟩)
end
section
open Go.Conc Go.RowKit
def uU(f:Func):Code:=match f.body with
 |some (.seq _ r)=>r
 |_=>.skip
def opsOf(f:Func):Array Oper:=match f.body with
 |some (.seq (.region _ o _) _)=>o
 |_=>#[]
theorem JC(a:Addr)(v:Value)(w:World)(h:w.cell? a=some v):(b2 167 (.pointer (some a)) >>= λv=>(pure (.value v):Sem Go.Next)).runT prog w #[]=(.ok (.value v) w,#[⟨.cell a,false,false⟩]):=by
 have y:∀w,(isAgg 167).runT prog w #[]=(.ok false w,#[]):=by intro w; kernel_rfl
 have O:(b2 167 (.pointer (some a)) >>= λv=>(pure (.value v):Sem Go.Next))=(isAgg 167 >>= λb=>((if b=true then(do pure (.agg (<-loadCells a (<-sizeOf 167))))else load a) >>= λv=>(pure (.value v)))):=by
  show(loadVar _ a >>= _)=_;unfold loadVar;rw[bind_assoc]
 rw[O];show((isAgg _).bind _).runT .. = _;rw[Sem.runT_bind',y];show(load a >>= λv=>(pure _)).runT .. = _;have U:(load a >>= λv=>(pure (.value v):Sem Go.Next))=.load _ a _:=rfl;rw[U];simp only[Sem.runT,h];rfl
theorem S5:xy prog 120 f120 6 167 (opsOf f120) (uU f120):=
 ⟨by kernel_rfl,by kernel_rfl,by decide,⟨_,_,_,_,rfl⟩,JC⟩
theorem SQ:xy prog 116 f116 4 167 (opsOf f116) (uU f116):=
 ⟨by kernel_rfl,by kernel_rfl,by decide,⟨_,_,_,_,rfl⟩,JC⟩
theorem SM:jq (λo=>Du prog sW CQ false o.op) (uU f120)=true:=by kernel_rfl
theorem SJ:jq (λo=>Du prog sW CQ false o.op) (uU f116)=true:=by kernel_rfl
end
section
open Go.Conc
def oJ:Item->Item
 |.code y=>.code (AQ y)
 |.inLoop y=>.inLoop (AQ y)
 |x=>x
def jG:Item->Bool
 |.code _|.inLoop _|.inBlock _=>true
 |_=>false
theorem Ox{m:Ren}:∀{k:List Item},k.all jG=true->dP (jw m) (k.map oJ) k
 |[],_=>.nil
 |x::k,h=>by
  simp only[bg,bc]at h;refine .cons ?_ (Ox h.2);cases x<;>first|exact .Ex _|exact .lY _|exact .inBlock _|(simp[jG]at h)
theorem FI{m:Ren}:∀{k k':List Item},k.all jG=true->dP (jw m) (k.map oJ) k'->k'=k
 |[],_,_,h=>by cases h; rfl
 |x::k,_,W,h=>by
  simp only[bg,bc]at W
  cases h with
  |cons hi Y=>
   rw[FI W.2 Y]
   cases x with
   |code y=>
    simp only[oJ]at hi;generalize O:Item.code _=z at hi
    cases hi with
    |Ex y'=>simp only[AQ,Item.code.injEq,Code.cond.injEq]at O; rw[O.2.1]
    |code c U=>simp only[Item.code.injEq]at O; rw[<-O]at U; exact U.1.elim
    |_=>cases O
   |inLoop y=>
    simp only[oJ]at hi;generalize O:Item.inLoop _=z at hi
    cases hi with
    |lY y'=>simp only[AQ,Item.inLoop.injEq,Code.cond.injEq]at O; rw[O.2.1]
    |inLoop c U=>simp only[Item.inLoop.injEq]at O; rw[<-O]at U; exact U.1.elim
    |_=>cases O
   |inBlock i=>
    cases hi;rfl
   |_=>simp[jG]at W
theorem qV(id:Nat):∀(k:List Item),aT id (k.map oJ)=(aT id k).map (·.map oJ)
 |[]=>rfl
 |x::k=>by
  cases x with
  |inBlock i=>
   simp only[List.map_cons,oJ];unfold aT;split
   .rfl
   .exact qV id k
  |_=>exact qV id k
theorem exitTo_plain{id:Nat}:∀{k k':List Item},k.all jG=true->aT id k=some k'->k'.all jG=true
 |[],_,_,e=>by cases e
 |x::k,k',y,e=>by
  simp only[bg,bc]at y
  cases x with
  |inBlock i=>
   unfold aT at e;split at e
   .cases e; exact y.2
   .exact exitTo_plain y.2 e
  |_=>exact exitTo_plain y.2 e
section
variable {P:Program} {E:Env P} {fn:aL} {tm:Array Value} {os:List OF} {wl:World} {V:List (Nat×Option (List Value))} {k:List Item}
theorem iK.R5{S:LS}(hk:k.all jG=true)(hf:uq E os)(Y:S.cs=[door P])(aa:S.fr=fL fn tm (k.map oJ))(h:dl E (⟨fn,tm,k⟩::os) S.w V):iK E S os V:=by
 intro m Pd ρ gs w sl t fr' cs' Tc ab ac ad y O h0;have hF:=O.pR;rw[Y]at O;have U:=tz hf y
 obtain⟨rfl,W⟩:cs'=Tc/\fr'.kind=.normal:=by
  cases O with
  |one _ _ hb _=>
   refine⟨rfl,?_⟩;rcases hb with⟨x,_⟩|⟨_,ps,e,x⟩
   .exact x
   .exact absurd x (U ps e)
  |cons _ _ _ hx=>cases hx
 rw[aa]at hF;obtain⟨f1,f2,f3,f4,f5,f6⟩:=hF;obtain⟨ae,af,ag,ah,ai,aj,ak⟩:=fr';have:=FI hk f3;subst this f1 W;cases f4;cases f5;cases f6;exact h m Pd ρ gs w sl t _ _ ab ac ad (.cons (o:=⟨_,tm,_⟩) f2 y) h0
theorem dl.code{c:Code}{Q:Exit->Act->World->Prop}(af:fD E.ok c)(hk:k.all jG=true)(hf:uq E os)(h:∀τ,Am τ wl->c.wp P Q ⟨tm,[]⟩ (tp wl τ))
  (hn:∀e a w',Q e a w'->a.defers=[]/\∃k',((e=.normal/\k'=k)\/∃id,e=.exit id/\aT id k=some k')/\dl E (⟨fn,a.tmps,k'⟩::os) w' V):dl E (⟨fn,tm,.code c::k⟩::os) wl V:=by
 have hS:iK E ⟨fL fn tm (.code c::k.map oJ),[door P],wl⟩ os V:=by
  let U:LS->Prop:=λS=>S.cs=[door P]/\∃W k',k'.all jG=true/\S.fr=fL fn W (k'.map oJ)/\dl E (⟨fn,W,k'⟩::os) S.w V;refine iK.nj (Stop:=λS=>∃τ,U (S.on τ)) (λS τ ⟨y,h⟩=>⟨y,h⟩) (λy ab=>?_) λS' ⟨y,hc,W,k',h1,h2,h3⟩=>?_
  .obtain⟨e,a,w',hq,O⟩:=h y ab (fL fn #[] []) (k.map oJ) [door P];obtain⟨hd,k',ag,hW⟩:=hn e a w' hq;obtain⟨Y,al⟩:=a;subst hd
   have aa:Steps P (aV (fL fn tm (.code c::k.map oJ)) [door P] (tp wl y)) (aV (fL fn Y (k'.map oJ)) [door P] w')/\k'.all jG=true:=by
    rcases ag with⟨rfl,rfl⟩|⟨id,rfl,he⟩
    .exact⟨O,hk⟩
    .exact⟨O _ (by rw[qV,he]; rfl),exitTo_plain hk he⟩
   obtain⟨⟨n,aa⟩,ah⟩:=aa;exact⟨n,⟨fL fn Y _,[door P],w'⟩,aa,⟨w'.tape,rfl,Y,k',ah,rfl,hW⟩,by simp⟩
  .exact iK.tape (τ:=y) (iK.R5 h1 hf hc h2 h3)
 intro m Pd ρ gs w sl t fr' cs' ac ai aj ad h0;obtain⟨ak,l',e,ht,ae⟩:=ad.head;cases e;exact hS m Pd ρ gs w sl t _ _ cs' ac ai aj ae (dQ.one (fr:=fL fn tm _) (fr':=fL fn ak _) ⟨rfl,ht,.cons (.code c (by rw[ac.QS]; exact af)) (Ox hk),.nil,.run,.none⟩ rfl (.inl ⟨rfl,tz hf ae⟩) rfl) h0
end
end
end Go.Proofs.YtocbogeoffeolaaGreatDoor
