import Derived.Test.YtocbogeoffeolaaGreatDoorRefAG
import Derived.OrdersHeld
import Derived.Below
import Derived.WalkKit
set_option linter.all false
set_option maxHeartbeats 8000000
set_option maxRecDepth 1000000
open Go.Region renaming ready->a4,wanted->a5,binds->a6,noSelect_spec->a7,free_spec->a8,schedule->a9,noSelect->aA,free->aB
open Array renaming replicate->aC,getElem?_eq_none->aD,getElem?_eq_some_iff->aE,getD_eq_getD_getElem?->aF,setIfInBounds_comm->aG,mem_toList_iff->aH,empty_append->aI
open Go renaming yielded->aJ,execOp->aK,FuncId->aL,ready_mono->aM,stepG->aN,getD_set_ne->aO,wanted_put->aP,execOp_put->aQ,TypeId->aR,step_lone_go->aS,exitTo->aT,seen->aU,lone->aV,callDeferred->aW
open Go.stepG renaming apply->aX,exec->aY,oper->aZ
open Bool renaming false_eq_true->ba,and_eq_true->bc,true_or->bd
open List renaming not_mem_nil->be,mem_cons->bf,all_cons->bg,all_eq_true->bh,mem_filter->bi,mem_map->bj,range->bk
open Go.Region.linearise renaming go->bl
open Nat renaming le_refl->bm,lt_or_ge->bn,zero_le->bo
open Go.Frame renaming enter->bp,finish_at->bq,finish->br,oper?->bs,eval->bt
open Go.GStep renaming after->bu
open Option renaming getD_some->bv,bind_some->bw,map_some->bx
open Go.RowKit.Below renaming refl->bz,trans->b0,size->b1
open Go.Instr renaming loadAt->b2
open Go renaming undef->b3
namespace Go.Proofs.YtocbogeoffeolaaGreatDoor
open Go.Proofs.Tryz
section
open Go.RowKit
variable {K:(World->Prop)->Act->Prop} {a:Act} {listed:Array Bool} {fuel i id:Nat} {o oi:Oper} {v:Value} {b c w:World} {C:World->Prop}
def iT(y O:World):Prop:=Below y.heap.size y O
theorem iT.refl(y:World):iT y y:=bz ..
theorem iT.trans{a:World}(h:iT a b)(O:iT b c):iT a c:=b0 h (Below.mono O (b1 h))
theorem iT.alloc(y:World)(o:Obj):iT y (y.alloc o):=(bz ..).alloc (bm _) o
def D.iT(y O:World):Prop:=Below y.heap.size y O/\y.drawn<=O.drawn
theorem D.iT.refl(y:World):D.iT y y:=⟨bz ..,bm _⟩
theorem D.iT.trans{a:World}(h:D.iT a b)(O:D.iT b c):D.iT a c:=⟨b0 h.1 (Below.mono O.1 (b1 h.1)),Nat.le_trans h.2 O.2⟩
theorem D.iT.alloc(y:World)(o:Obj):D.iT y (y.alloc o):=⟨(bz ..).alloc (bm _) o,bm _⟩
def jR(R:World->World->Prop)(C:World->Prop):Prop:=∀y O,C y->R y O->C O
theorem ju(w:World):jR iT (iT w):=λ_ _ h O=>h.trans O
theorem D.ju(w:World):jR D.iT (D.iT w):=λ_ _ h O=>h.trans O
theorem jR.and{R:World->World->Prop}{D:World->Prop}(h:jR R C)(h':jR R D):jR R (λy=>C y/\D y):=λy O U Y=>⟨h y O U.1 Y,h' y O U.2 Y⟩
section
variable {R:World->World->Prop} {P:Program} {ops:Array Oper} {md:Region.Mode} {Q:Exit->Act->World->Prop}
def l6(P:Program)(w:World)(B:Value->World->Prop):Result Go.Next->Prop
 |.ok (.value u) w'=>B u w'
 |.ok .skip w'=>B b3 w'
 |.ok (.enter f args) w'=>w'=w/\Calls P f args w (λe O=>∃v,e=.returned v/\B v O)
 |_=>False
def jC(P:Program)(o:Oper)(a:Act)(w:World)(B:Value->World->Prop):Prop:=l6 P w B ((aK a.eval o).run P w)
theorem l6.mono{B O:Value->World->Prop}(h:∀v w,B v w->O v w):∀{r:Result Go.Next},l6 P w B r->l6 P w O r:=by
 intro r hh
 cases r with
 |ok n w'=>
  cases n<;>simp only[l6]at hh⊢
  case value u=>exact h _ _ hh
  case skip=>exact h _ _ hh
  case enter f args=>exact⟨hh.1,hh.2.mono λe w'' ⟨v,he,hb⟩=>⟨v,he,h _ _ hb⟩⟩
 |halt x w'=>simp only[l6]at hh
def L'(R:World->World->Prop)(P:Program)(ops:Array Oper)(i:Nat)(C:World->Prop)(K:(World->Prop)->Act->Prop)(a:Act):Prop:=
 match ops[i]? with
 |none=>K C a
 |some o=>if a5 o (aJ ops a.tmps)=true then
   ∃(X:Type)(O:X->World->Prop)(U:X->Value),(∀x,jR R (O x))/\(∀x y,O x y->C y)/\(∀y,C y->jC P o a y (λv Y=>R y Y/\∃x,v=U x/\O x Y))/\∀x,K (O x) (a.put o.dst (U x))
  else K C (a.put o.dst b3)
theorem Py{K':(World->Prop)->Act->Prop}(h:∀C a,K C a->K' C a)(O:L' R P ops i C K a):L' R P ops i C K' a:=by
 unfold L' at *;split
 .rename_i U; simp only[U]at O; exact h _ _ O
 .rename_i o U;simp only[U]at O;split
  .rename_i Y;simp only[Y,if_true]at O;obtain⟨X,Cx,vx,h1,h2,h3,h4⟩:=O;exact⟨X,Cx,vx,h1,h2,h3,λx=>h _ _ (h4 x)⟩
  .rename_i Y; simp only[Y]at O; exact h _ _ O
def WX(R:World->World->Prop)(P:Program)(md:Region.Mode)(ops:Array Oper)(Q:Exit->Act->World->Prop):Nat->Array Bool->(World->Prop)->Act->Prop
 |0,listed,C,a=>a4 md ops listed=[]/\∀y,C y->Q .normal a y
 |fuel+1,listed,C,a=>
  (a4 md ops listed=[]->∀y,C y->Q .normal a y)/\
  ∀i∈a4 md ops listed,L' R P ops i C (λO U=>WX R P md ops Q fuel (listed.setIfInBounds i true) O U) a
theorem G4{K':Act->World->Prop}(hC:C w)(h:∀C a w,C w->K C a->K' a w)(hh:L' R P ops i C K a):wpOp P ops Q i K' a w:=by
 unfold L' at hh;unfold wpOp;split
 .rename_i U; simp only[U]at hh; exact h _ _ _ hC hh
 .rename_i o U;simp only[U]at hh;split
  .rename_i Y;simp only[Y,if_true]at hh;obtain⟨X,Cx,vx,_,_,h3,h4⟩:=hh;have h5:=h3 w hC;refine .inl ?_;unfold jC at h5;unfold Oper.wp;generalize (aK _ o).run P w=r at *
   cases r with
   |ok n w'=>
    cases n<;>simp only[l6]at h5<;>simp only[Oper.upon]
    case value u=>
     obtain⟨_,x,rfl,O⟩:=h5;exact h _ _ _ O (h4 x)
    case skip=>
     obtain⟨_,x,e,O⟩:=h5;rw[e];exact h _ _ _ O (h4 x)
    case enter f args=>
     obtain⟨e1,hc⟩:=h5;rw[e1];refine hc.mono λe aa he=>?_;obtain⟨v,rfl,_,x,rfl,O⟩:=he;exact h _ _ _ O (h4 x)
   |halt x w'=>simp only[l6]at h5
  .rename_i Y; simp only[Y]at hh; exact h _ _ _ hC hh
theorem yI:∀(fuel:Nat)(listed:Array Bool)(C:World->Prop)(a:Act)(w:World),C w->WX R P md ops Q fuel listed C a->wpAny P md ops Q fuel listed a w
 |0,_,_,_,w,O,h=>⟨h.1,h.2 w O⟩
 |fuel+1,_,_,_,w,O,h=>⟨λY=>h.1 Y w O,λi hi=>G4 O (λC' a' w' U h'=>yI fuel _ C' a' w' U h') (h.2 i hi)⟩
def jG(R:World->World->Prop)(P:Program)(ops:Array Oper)(C:World->Prop)(o:Oper)(v:Value)(a:Act):Prop:=
 (a5 o (aJ ops a.tmps)=true/\∀y,C y->jC P o a y (λu O=>R y O/\u=v))\/
 (a5 o (aJ ops a.tmps)=false/\v=b3)
theorem jG.sub{O:World->Prop}(h:jG R P ops C o v a)(U:∀y,O y->C y):jG R P ops O o v a:=by
 rcases h with⟨Y,h2⟩|h
 .exact .inl ⟨Y,λy hy=>h2 y (U y hy)⟩
 .exact .inr h
theorem jG.of_same{O:Act}(U:jG R P ops C o v a)(Y:aK O.eval o=aK a.eval o)
  (hw:a5 o (aJ ops O.tmps)=a5 o (aJ ops a.tmps)):jG R P ops C o v O:=by
 unfold jG jC at *;rw[Y,hw];exact U
theorem jG.VM(hi:ops[i]?=some o)(hC:jR R C)(O:jG R P ops C o v a)(h:K C (a.put o.dst v)):L' R P ops i C K a:=by
 unfold L';simp only[hi];rcases O with⟨U,hv⟩|⟨U,rfl⟩
 .simp only[U,if_true];exact⟨Unit,λ_=>C,λ_=>v,λ_=>hC,λ_ _ h=>h,λy O=>(hv y O).mono λu y' ⟨Y,h2⟩=>⟨Y,(),h2,hC y y' O Y⟩,λ_=>h⟩
 .simp only[U,ba,if_false]; exact h
theorem RU{j:Nat}{O:Oper}(hj:ops[j]?=some O)(Y:oi.apart ops O=true)
  (aa:∀cs b,oi.op≠.select cs b) (ab:∀cs b,O.op≠.select cs b) {K:(World->Prop)->Act->Prop} {a:Act} (hC:jR R C)
  (U:jG R P ops C oi v a) (h:L' R P ops j C K (a.put oi.dst v)) :
  L' R P ops j C (λC' a'=>jR R C'/\jG R P ops C' oi v a'/\K C' (a'.put oi.dst v)) a:=by
 obtain⟨h1,h2,h3⟩:=Oper.apart_spec Y
 have nH:∀(C:World->Prop)(a:Act),jG R P ops C oi v a->∀u,jG R P ops C oi v _:=λC a U u=>
  U.of_same (aQ oi aa a _ u h3) (aP oi a _ u h3)
 unfold L' at *;simp only[hj]at *;rw[aP O a _ v h1]at h;split
 .rename_i hw;simp only[hw,if_true]at h;obtain⟨X,Cx,vx,q1,q2,q3,q4⟩:=h;refine⟨X,Cx,vx,q1,q2,λy ac=>?_,λx=>⟨q1 x,nH _ _ (U.sub (q2 x)) _,by rw[<-Act.put_comm a v _ h2]; exact q4 x⟩⟩;have:=q3 y ac;unfold jC at *;rwa [aQ O ab a _ v h1]at this
 .rename_i hw;simp only[hw]at h;exact⟨hC,nH _ a U _,by rw[<-Act.put_comm a v b3 h2]; exact h⟩
theorem Hw(hi:ops[i]?=some oi)(aa:∀(j:Nat)(o:Oper)cs b,ops[j]?=some o->o.op≠.select cs b) :
  ∀(fuel:Nat)(listed:Array Bool)(C:World->Prop)(a:Act),
   (∀j oj,ops[j]?=some oj->j≠i->listed.getD j true=false->(∀e∈oj.after,a6 md e=true->e.on≠i)->oi.apart ops oj=true)->
   i∈a4 md ops listed->jR R C->jG R P ops C oi v a->
   WX R P md ops Q fuel (listed.setIfInBounds i true) C (a.put oi.dst v)->WX R P md ops Q (fuel+1) listed C a:=by
 intro fuel
 induction fuel with
 |zero=>
  intro listed C a _ hr hC hy H;refine⟨λh=>(by rw[h]at hr; cases hr),λj hj=>?_⟩;by_cases O:j=i
  .subst O; exact hy.VM hi hC H
  .have:=aM hj O;rw[H.1]at this;cases this
 |succ fuel ih=>
  intro listed C a U hr hC hy H;refine⟨λh=>(by rw[h]at hr; cases hr),λj hj=>?_⟩;by_cases O:j=i
  .subst O; exact hy.VM hi hC H
  .have h1:=H.2 j (aM hj O);obtain⟨ab,oj,ac,ji⟩:=_root_.Go.mem_ready.1 hj
   have ad:∀e∈oj.after,a6 md e=true->e.on≠i:=λe he hb ag=>by
    have h1:=ji e he hb;have h0:=(_root_.Go.mem_ready.1 hr).1;rw[ag]at h1;rcases bn i listed.size with h'|h'
    .simp[h']at h0 h1; rw[h0]at h1; cases h1
    .simp[aD h']at h1
   have h2:=RU ac (U j oj ac O ab ad) (λcs b=>aa i oi cs b hi) (λcs b=>aa j oj cs b ac) hC hy h1
   have Y:∀k ok,ops[k]?=some ok->k≠i->(listed.setIfInBounds j true).getD k true=false->
     (∀e∈ok.after,a6 md e=true->e.on≠i)->oi.apart ops ok=true:=λk ok hk ah ae ai=>by
    refine U k ok hk ah ?_ ai;by_cases af:j=k
    .subst af; exact ab
    .rw[aO true af]at ae; exact ae
   refine Py (λC' a' h3=>ih _ C' a' Y (aM hr (Ne.symm O)) h3.1 h3.2.1 ?_) h2;rw[aG _ _ O];exact h3.2.2
theorem gO(i:Nat)(v:Value)(O:∀y,C y->jC P oi a y (λu U=>R y U/\u=v))
  (h:WX R P md ops Q fuel (listed.setIfInBounds i true) C (a.put oi.dst v)) (hi:ops[i]?=some oi:=by rfl)
  (Y:aA ops=true:=by kernel_rfl) (hf:aB md ops listed i=true:=by kernel_rfl) (hr:(a4 md ops listed).contains i=true:=by kernel_rfl) (hC:jR R C:=by first|exact ju _|exact D.ju _)
  (hw:a5 oi (aJ ops a.tmps)=true:=by rfl):WX R P md ops Q (fuel+1) listed C a:=
 Hw hi (a7 Y) fuel listed C a (a8 hi hf) (by simpa using hr) hC (.inl ⟨hw,O⟩) h
theorem Uf{rs:List Nat}(U:a4 md ops listed=rs)(O:rs≠[])
  (h:∀i∈rs,L' R P ops i C (λY a'=>WX R P md ops Q fuel (listed.setIfInBounds i true) Y a') a):WX R P md ops Q (fuel+1) listed C a:=
 ⟨λh0=>absurd (U▸h0) O,U▸h⟩
theorem zw(O:a4 md ops listed=[])(h:∀y,C y->Q .normal a y):∀fuel,WX R P md ops Q fuel listed C a
 |0=>⟨O,h⟩
 |_+1=>⟨λ_=>h,by rw[O]; simp⟩
theorem Sz(Y:Nat->Value)(D:Nat->World->Prop)(hi:ops[i]?=some oi)(hC:jR R C)(hD:∀g,jR R (D g))
  (hw:a5 oi (aJ ops a.tmps)=true) (hy:∀y,C y->jC P oi a y (λv U=>R y U/\v=Y y.heap.size/\D y.heap.size U))
  (h:∀g,K (λy=>C y/\D g y) (a.put oi.dst (Y g))):L' R P ops i C K a:=by
 unfold L';simp only[hi,hw,if_true];exact⟨Nat,λg y=>C y/\D g y,Y,λg=>hC.and (hD g),λ_ _ h=>h.1,λy O=>(hy y O).mono λv U ⟨h1,h2,h3⟩=>⟨h1,y.heap.size,h2,hC y U O h1,h3⟩,h⟩
theorem y7(O:R w {w with drawn:=w.drawn+1})(hm:P.follows .mixedOrders=true)
  (h:WX R P .any ops Q ops.size (aC ops.size false) (R w) a):(Code.region id ops true).wp P Q a w:=
 wp_region_any hm (yI _ _ _ _ _ O h)
theorem oS(hm:P.follows .mixedOrders=true)(h:WX iT P .any ops Q ops.size (aC ops.size false) (iT w) a):(Code.region id ops true).wp P Q a w:=
 y7 ⟨rfl,rfl,rfl,bm _,λ_ _=>rfl⟩ hm h
theorem D.oS(hm:P.follows .mixedOrders=true)(h:WX D.iT P .any ops Q ops.size (aC ops.size false) (D.iT w) a):(Code.region id ops true).wp P Q a w:=
 y7 ⟨⟨rfl,rfl,rfl,bm _,λ_ _=>rfl⟩,Nat.le_succ _⟩ hm h
theorem FC(U:∀y O,R y O->Below y.heap.size y O)(a:Addr)(v:Value):jR R (λy=>y.cell? a=some v):=λy O h Y=>by
 have hb:=Below.block (U _ _ Y) _ (World.block_lt_of_cell? y a h);show O.cell? a=some v;rw[World.cell?_of_block hb]; exact h
theorem jK(a:Addr)(v:Value):jR iT (λy=>y.cell? a=some v):=FC (λ_ _ h=>h) a v
theorem D.jK(a:Addr)(v:Value):jR D.iT (λy=>y.cell? a=some v):=FC (λ_ _ h=>h.1) a v
end
end
section
open Go.RowKit
variable {K:(World->Prop)->Act->Prop} {a:Act} {listed:Array Bool} {i:Nat} {oi:Oper} {v:Value} {C:World->Prop}
def oN(C:World->Prop):Prop:=∀y τ,C y->C (tp y τ)
def nV(w:World):World->Prop:=λy=>∃τ,iT (tp w τ) y
theorem nV.TT(w:World):jR iT (nV w):=λ_ _ ⟨τ,h⟩ O=>⟨τ,h.trans O⟩
theorem TJ{w y:World}(h:iT w y)(τ:Nat->Question->Nat):iT (tp w τ) (tp y τ):=by
 obtain⟨O,h2,U,Y,h5⟩:=h;exact⟨O,rfl,U,Y,h5⟩
theorem nV.free(w:World):oN (nV w):=λy τ ⟨_,h⟩=>⟨τ,TJ h τ⟩
theorem nV.at(w:World)(d:Nat):nV w (w.at d):=⟨w.tape,⟨rfl,rfl,rfl,bm _,λ_ _=>rfl⟩⟩
section
variable {P:Program} {ops:Array Oper} {md:Region.Mode} {last:Nat} {tl:List Nat->Prop} {Sd:Act->World->Prop}
def C0(P:Program)(ops:Array Oper)(i:Nat)(C:World->Prop)(K:(World->Prop)->Act->Prop)(a:Act):Prop:=
 match ops[i]? with
 |none=>False
 |some o=>if a5 o (aJ ops a.tmps)=true then
   ∃(X:Type)(O:X->World->Prop)(U:X->Value),(∀x,jR iT (O x))/\(∀x,oN (O x))/\(∀x y,O x y->C y)/\(∀y,C y->jC P o a y (λv Y=>iT y Y/\∃x,v=U x/\O x Y))/\∀x,K (O x) (a.put o.dst (U x))
  else K C (a.put o.dst b3)
theorem MV{K':(World->Prop)->Act->Prop}(h:∀C a,K C a->K' C a)(O:C0 P ops i C K a):C0 P ops i C K' a:=by
 unfold C0 at *;split
 .rename_i U; simp only[U]at O
 .rename_i o U;simp only[U]at O;split
  .rename_i Y;simp only[Y,if_true]at O;obtain⟨X,Cx,vx,h1,h2,h3,h4,h5⟩:=O;exact⟨X,Cx,vx,h1,h2,h3,h4,λx=>h _ _ (h5 x)⟩
  .rename_i Y; simp only[Y]at O; exact h _ _ O
def WS(P:Program)(md:Region.Mode)(ops:Array Oper)(last:Nat)(tl:List Nat->Prop)(Sd:Act->World->Prop):Nat->Array Bool->(World->Prop)->Act->Prop
 |0,_,_,_=>False
 |fuel+1,listed,C,a=>a4 md ops listed≠[]/\∀i∈a4 md ops listed,if i=last then(∀t,tl (bl md ops fuel t (listed.setIfInBounds last true) []))/\∀y,C y->Sd a y else C0 P ops i C (λO U=>WS P md ops last tl Sd fuel (listed.setIfInBounds i true) O U) a
structure K1(P:Program)(ops:Array Oper)(last:Nat)(W:List Nat->Act->World->Prop):Prop where
 op:∀(i:Nat)rest a w o,i≠last->ops[i]?=some o->a5 o (aJ ops a.tmps)=true->(∀τ,jC P o a (tp w τ) λv y=>iT (tp w τ) y/\W rest (a.put o.dst v) y)->W (i::rest) a w
 pass:∀(i:Nat)rest a w o,i≠last->ops[i]?=some o->a5 o (aJ ops a.tmps)=false->W rest (a.put o.dst b3) w->W (i::rest) a w
theorem WS.sound{W:List Nat->Act->World->Prop}(U:K1 P ops last W)(O:∀a y l,tl l->Sd a y->W (last::l) a y):∀(fuel t:Nat)(listed:Array Bool)(C:World->Prop)(a:Act)(w:World),oN C->C w->WS P md ops last tl Sd fuel listed C a->W (bl md ops fuel t listed []) a w
 |0,_,_,_,_,_,_,_,h=>h.elim
 |fuel+1,t,listed,C,a,w,hT,hC,h=>by
  obtain⟨h0,h1⟩:=h
  change W (match (a4 md ops listed)[t % (a4 md ops listed).length]? with
   |some i=>bl md ops fuel ..
   |none=>[].reverse) a w
  cases hi:(a4 md ops listed)[t % (a4 md ops listed).length]? with
  |none=>
   exfalso
   cases hr:a4 md ops listed with
   |nil=>exact h0 hr
   |cons x xs=>
    rw[hr]at hi;have aa:t % (x::xs).length<(x::xs).length:=Nat.mod_lt _ (by simp);simp at hi;simp at aa;omega
  |some i=>
   simp only[];rw[linearise_go_acc];have h2:=h1 i (List.mem_of_getElem? hi);by_cases e:i=last
   .subst e;simp only[if_true]at h2;exact O a w _ (h2.1 _) (h2.2 w hC)
   .simp only[e,if_false]at h2;unfold C0 at h2
    cases Y:ops[i]? with
    |none=>simp only[Y]at h2
    |some o=>
     simp only[Y]at h2;by_cases hw:a5 o (aJ ops a.tmps)=true
     .simp only[hw,if_true]at h2;obtain⟨X,Cx,vx,q1,q2,q3,q4,q5⟩:=h2;refine U.op i _ a w o e Y hw λτ=>(q4 _ (hT w τ hC)).mono λv y ⟨he,x,ev,hx⟩=>⟨he,?_⟩;rw[ev];exact WS.sound U O fuel _ _ _ _ y (q2 x) hx (q5 x)
     .simp only[hw,ba,if_false]at h2;exact U.pass i _ a w o e Y (by simpa using hw) (WS.sound U O fuel _ _ C _ w hT hC h2)
inductive Uo(md:Region.Mode)(ops:Array Oper)(last:Nat):Nat->Prop
 |base {e o}:ops[last]?=some o->e∈o.after->a6 md e=true->Uo md ops last e.on
 |step {j:Nat} {e o}:Uo md ops last j->ops[j]?=some o->e∈o.after->a6 md e=true->Uo md ops last e.on
def Down(md:Region.Mode)(ops:Array Oper)(listed:Array Bool):Prop:=∀(j:Nat)o,ops[j]?=some o->listed.getD j false=true->∀e∈o.after,a6 md e=true->listed.getD e.on false=true
theorem Down.Wb(h:Down md ops listed)(hr:last∈a4 md ops listed)(hi:Uo md ops last i):listed.getD i false=true:=by
 induction hi with
 |base U Y hb=>
  obtain⟨_,o',O,ji⟩:=_root_.Go.mem_ready.1 hr;rw[U]at O;cases O;exact ji _ Y hb
 |step _ U Y hb ih=>exact h _ _ U ih _ Y hb
theorem Down.set(h:Down md ops listed)(hr:i∈a4 md ops listed):Down md ops (listed.setIfInBounds i true):=by
 have up:∀k,listed.getD k false=true->(listed.setIfInBounds i true).getD k false=true:=by
  intro k Y;by_cases e:i=k
  .subst e
   have:i<listed.size:=by
    apply Classical.byContradiction;intro hn;simp[aD (Nat.le_of_not_lt hn)]at Y
   simp[this]
  .rw[aO false e]; exact Y
 intro j o ho hj e he hb;by_cases O:i=j
 .subst O;obtain⟨_,o',U,ji⟩:=_root_.Go.mem_ready.1 hr;rw[ho]at U;cases U;exact up _ (ji e he hb)
 .rw[aO false O]at hj;exact up _ (h j o ho hj e he hb)
theorem Oz{j:Nat}{O:Oper}(hj:ops[j]?=some O)(aa:oi.apart ops O=true)
  (ab:∀cs b,oi.op≠.select cs b) (ac:∀cs b,O.op≠.select cs b) {K:(World->Prop)->Act->Prop} {a:Act} (hC:jR iT C) (hT:oN C)
  (U:jG iT P ops C oi v a) (h:C0 P ops j C K (a.put oi.dst v)) :
  C0 P ops j C (λY a'=>(jR iT Y/\oN Y)/\jG iT P ops Y oi v a'/\K Y (a'.put oi.dst v)) a:=by
 obtain⟨h1,h2,h3⟩:=Oper.apart_spec aa
 have nH:∀(C:World->Prop)(a:Act),jG iT P ops C oi v a->∀u,jG iT P ops C oi v _:=λC a U u=>
  U.of_same (aQ oi ab a _ u h3) (aP oi a _ u h3)
 unfold C0 at *;simp only[hj]at *;rw[aP O a _ v h1]at h;split
 .rename_i hw;simp only[hw,if_true]at h;obtain⟨X,Cx,vx,q1,qt,q2,q3,q4⟩:=h;refine⟨X,Cx,vx,q1,qt,q2,λy ad=>?_,λx=>⟨⟨q1 x,qt x⟩,nH _ _ (U.sub (q2 x)) _,by rw[<-Act.put_comm a v _ h2]; exact q4 x⟩⟩;have:=q3 y ad;unfold jC at *;rwa [aQ O ac a _ v h1]at this
 .rename_i hw;simp only[hw]at h;exact⟨⟨hC,hT⟩,nH _ a U _,by rw[<-Act.put_comm a v b3 h2]; exact h⟩
theorem jG.V6{o:Oper}(hi:ops[i]?=some o)(hC:jR iT C)(hT:oN C)(O:jG iT P ops C o v a)(h:K C (a.put o.dst v)):C0 P ops i C K a:=by
 unfold C0;simp only[hi];rcases O with⟨U,hv⟩|⟨U,rfl⟩
 .simp only[U,if_true];exact⟨Unit,λ_=>C,λ_=>v,λ_=>hC,λ_=>hT,λ_ _ h=>h,λy O=>(hv y O).mono λu y' ⟨Y,h2⟩=>⟨Y,(),h2,hC y y' O Y⟩,λ_=>h⟩
 .simp only[U,ba,if_false]; exact h
theorem PN(hi:ops[i]?=some oi)(af:Uo md ops last i)(am:i≠last)(ac:∀(j:Nat)(o:Oper)cs b,ops[j]?=some o->o.op≠.select cs b) :
  ∀(fuel:Nat)(listed:Array Bool)(C:World->Prop)(a:Act),Down md ops listed->
   (∀j oj,ops[j]?=some oj->j≠i->listed.getD j true=false->(∀e∈oj.after,a6 md e=true->e.on≠i)->oi.apart ops oj=true\/j=last)->
   i∈a4 md ops listed->jR iT C->oN C->jG iT P ops C oi v a->
   WS P md ops last tl Sd fuel (listed.setIfInBounds i true) C (a.put oi.dst v)->WS P md ops last tl Sd (fuel+1) listed C a:=by
 intro fuel
 induction fuel with
 |zero=>intro listed C a _ _ _ _ _ _ H; exact H.elim
 |succ fuel ih=>
  intro listed C a hD U hr hC hT hy H;refine⟨λh=>(by rw[h]at hr; cases hr),λj hj=>?_⟩;have O:=(_root_.Go.mem_ready.1 hr).1;by_cases aa:j=last
  .subst aa;have:=hD.Wb hj af;rcases bn i listed.size with h'|h'
   .simp[h']at this O; rw[O]at this; cases this
   .simp[aD h']at this
  .simp only[aa,if_false];by_cases Y:j=i
   .subst Y; exact hy.V6 hi hC hT H
   .have h1:=H.2 j (aM hj Y);simp only[aa,if_false]at h1;obtain⟨ad,oj,ae,ji⟩:=_root_.Go.mem_ready.1 hj
    have ag:∀e∈oj.after,a6 md e=true->e.on≠i:=λe he hb aj=>by
     have h1:=ji e he hb;rw[aj]at h1;rcases bn i listed.size with h'|h'
     .simp[h']at O h1; rw[O]at h1; cases h1
     .simp[aD h']at h1
    have h2:=Oz ae ((U j oj ae Y ad ag).resolve_right aa) (λcs b=>ac i oi cs b hi) (λcs b=>ac j oj cs b ae) hC hT hy h1
    have ab:∀k ok,ops[k]?=some ok->k≠i->(listed.setIfInBounds j true).getD k true=false->
      (∀e∈ok.after,a6 md e=true->e.on≠i)->oi.apart ops ok=true\/k=last:=λk ok hk ak ah al=>by
     refine U k ok hk ak ?_ al;by_cases ai:j=k
     .subst ai; exact ad
     .rw[aO true ai]at ah; exact ah
    refine MV (λC' a' h3=>ih _ C' a' (hD.set hj) ab (aM hr (Ne.symm Y)) h3.1.1 h3.1.2 h3.2.1 ?_) h2;rw[aG _ _ Y];exact h3.2.2
end
end
section
open Go.RowKit
open Go.Conc
variable {listed:Array Bool} {fuel:Nat} {o:Oper} {C:World->Prop}
section
variable {P:Program} {ops:Array Oper} {md:Region.Mode} {last:Nat} {tl:List Nat->Prop} {Sd:Act->World->Prop}
def xJ(md:Region.Mode)(ops:Array Oper)(j:Nat):List Nat:=match ops[j]? with
 |some o=>(o.after.toList.filter λe=>a6 md e).map (·.on)
 |none=>[]
def RO(md:Region.Mode)(ops:Array Oper)(last:Nat):Nat->List Nat
 |0=>xJ md ops last
 |n+1=>RO md ops last n++(RO md ops last n).flatMap (xJ md ops)
theorem G'{j i:Nat}(h:i∈xJ md ops j):∃o e,ops[j]?=some o/\e∈o.after/\a6 md e=true/\e.on=i:=by
 unfold xJ at h
 cases O:ops[j]? with
 |none=>rw[O]at h; cases h
 |some o=>
  rw[O]at h;simp only[bj,bi,aH]at h;obtain⟨e,⟨U,Y⟩,h3⟩:=h;exact⟨o,e,rfl,U,Y,h3⟩
theorem J8:∀(n:Nat){i:Nat},i∈RO md ops last n->Uo md ops last i
 |0,i,h=>by
  obtain⟨o,e,O,U,Y,rfl⟩:=G' h
  exact .base O U Y
 |n+1,i,h=>by
  rcases List.mem_append.1 h with h|h
  .exact J8 n h
  .obtain⟨j,hj,hi⟩:=List.mem_flatMap.1 h;obtain⟨o,e,O,U,Y,rfl⟩:=G' hi;exact .step (J8 n hj) O U Y
def Pb(md:Region.Mode)(ops:Array Oper)(listed:Array Bool):Bool:=(bk ops.size).all λj=>!listed.getD j false || (xJ md ops j).all λi=>listed.getD i false
theorem Sj(h:Pb md ops listed=true):Down md ops listed:=by
 intro j o O U e Y hb;unfold Pb at h;rw[bh]at h;have:=h j (by simpa using(aE.1 O).1);rw[U]at this;simp only[Bool.not_true,Bool.false_or,bh]at this;refine this _ ?_;unfold xJ;rw[O];simp only[bj,bi,aH];exact⟨e,⟨Y,hb⟩,rfl⟩
def Te(md:Region.Mode)(ops:Array Oper)(last:Nat)(listed:Array Bool)(i:Nat):Bool:=aA ops&&aB md ops listed i&&(a4 md ops listed).contains i&&(RO md ops last ops.size).contains i&&i != last&&Pb md ops listed
theorem gI(i:Nat)(v:Value){oi:Oper}{a:Act}(O:∀y,C y->jC P oi a y (λu U=>iT y U/\u=v))
  (h:WS P md ops last tl Sd fuel (listed.setIfInBounds i true) C (a.put oi.dst v)) (hi:ops[i]?=some oi:=by rfl) (hb:Te md ops last listed i=true:=by kernel_rfl) (hC:jR iT C:=by exact nV.TT _) (Y:oN C:=by exact nV.free _)
  (hw:a5 oi (aJ ops a.tmps)=true:=by rfl):WS P md ops last tl Sd (fuel+1) listed C a:=by
 simp only[Te,bc]at hb;obtain⟨⟨⟨⟨⟨h1,h2⟩,h3⟩,h4⟩,h5⟩,h6⟩:=hb;exact PN hi (J8 _ (by simpa using h4)) (by simpa using h5) (a7 h1) fuel listed C a (Sj h6) (λj oj a b c d=>.inl (a8 hi h2 j oj a b c d)) (by simpa using h3) hC Y (.inl ⟨hw,O⟩) h
theorem EM(U:a4 md ops listed=[]):∀(fuel t:Nat),bl md ops fuel t listed []=[]
 |0,_=>rfl
 |f+1,t=>by
  simp only[bl]
  split
  .rename_i q Y
   have O:(a4 md ops listed)[t % (a4 md ops listed).length]?=some q:=Y
   rw[U]at O;cases O
  .rfl
theorem pn{a:Act}(U:a4 md ops listed=[last])(Y:∀t,tl (bl md ops fuel t (listed.setIfInBounds last true) []))(h:∀y,C y->Sd a y):WS P md ops last tl Sd (fuel+1) listed C a:=by
 refine⟨by rw[U]; simp,λj O=>?_⟩;rw[U]at O;simp only[bf,be,or_false]at O;subst O;simp only[if_true];exact⟨Y,h⟩
end
section
variable {P:Program} {ops:Array Oper} {Q:Exit->Act->World->Prop}
def pj(P:Program)(ops:Array Oper)(Q:Exit->Act->World->Prop)(l:List Nat)(a:Act)(w:World):Prop:=∀b k cs,∃e O w',Q e O w'/\Arrives P (aV (b.at a (.inRegion ops l::k)) cs w) b k cs e O w'
theorem mc{i:Nat}{rest:List Nat}{a:Act}{w:World}(ho:ops[i]?=some o)(hw:a5 o (aJ ops a.tmps)=true)(hj:jC P o a w λv y=>pj P ops Q rest (a.put o.dst v) y):pj P ops Q (i::rest) a w:=by
  intro b k cs;have hg:=stepG_op (P:=P) (b:=b) (k:=k) (cs:=cs) (w:=w) (rest:=rest) ho hw
  have U:∀v,(b.at a (.inRegion ops (i::rest)::k)).finish v=b.at (a.put o.dst v) (.inRegion ops rest::k):=by
   intro v; rw[bq,ho]; rfl
  unfold jC at hj
  cases hr:(aK _ o).run P w with
  |halt x w'=>rw[hr]at hj; exact hj.elim
  |ok n w'=>
   rw[hr]at hj;cases n<;>simp only[l6]at hj
   case value v=>
    obtain⟨e,a',Y,hq,O⟩:=hj b k cs;refine⟨e,a',Y,hq,.of_steps (.one (aS ?_)) O⟩;rw[hg,<-U]; simp[aX,hr]
   case skip=>
    obtain⟨e,a',Y,hq,O⟩:=hj b k cs;refine⟨e,a',Y,hq,.of_steps (.one (aS ?_)) O⟩;rw[hg,<-U]; simp[aX,hr]
   case enter f args=>
    obtain⟨rfl,hc⟩:=hj;obtain⟨e,w2,fr,⟨v,rfl,hR⟩,ac,_,aa⟩:=hc _;obtain⟨e,a',Y,hq,O⟩:=hR b k cs
    have ab:step P _=.next (aV (bp P f args .normal) (b.at a (.inRegion ops (i::rest)::k)::cs) w'):=
     aS (by rw[hg]; simp[aX,hr,Frame.at])
    refine⟨e,a',Y,hq,.of_steps (.head ab (Steps.trans ac (.one ?_))) O⟩;rw[<-U]; exact step_leave_returned aa
theorem Ky{i:Nat}{rest:List Nat}{a:Act}{w:World}(U:ops[i]?=some o)(hw:a5 o (aJ ops a.tmps)=false)(h:pj P ops Q rest (a.put o.dst b3) w):pj P ops Q (i::rest) a w:=by
  intro b k cs;obtain⟨e,a',w',hq,O⟩:=h b k cs;have Y:=step_op_skip (P:=P) (b:=b) (a:=a) (k:=k) (cs:=cs) (w:=w) (ops:=ops) (i:=i) (rest:=rest) (by simp[U,hw]);simp only[U,bw]at Y;exact⟨e,a',w',hq,.of_steps (.one Y) O⟩
theorem Ju{last:Nat}{τ₀:Nat->Question->Nat}:K1 P ops last λl a w=>w.tape=τ₀->pj P ops Q l a w where
 op i rest a w o _ ho hw hj ht:=mc ho hw ((show jC P o a w _ from hj w.tape).mono λ_ _ h=>h.2 (h.1.tape.trans ht))
 pass i rest a w o _ ho hw h ht:=Ky ho hw (h ht)
theorem AG{i:Nat}{a:Act}{w:World}{x y:Operand}{r cap s rc:Nat}{O:Array Value}{tm:Bool}{v:Value}(ho:ops[i]?=some o)(hg:o.guard=none)(ab:o.op=.send x y)(hd:o.dst=none)(hx:a.eval x=.chan (some r))(hy:a.eval y=v)(hc:w.heap[r]?=some (.chan cap O false s rc tm))(hb:O.size<cap)
  (h:Q .normal a {w with heap:=w.heap.setIfInBounds r (.chan cap (O.push v) false (s+1) rc tm)}):pj P ops Q [i] a w:=by
 intro b k cs;have hw:a5 o (aJ ops a.tmps)=true:=by simp[a5,hg]
 have hg:=stepG_op (P:=P) (b:=b) (k:=k) (cs:=cs) (w:=w) (rest:=[]) ho hw
 have Y:aK a.eval o=pure (.comm #[{chan:=.chan (some r),send:=some v,zero:=b3}] true .send):=by
  obtain⟨d,op,ty,ps,af,gd⟩:=o;subst ab;simp only[aK,hx,hy];rfl
 have ac:aN P true (G (b.at a (.inRegion ops [i]::k)) cs) w=.comm (G (b.at a (.inRegion ops [i]::k)) cs) #[⟨.chan (some r),some v,b3⟩] true .send w (aU P b.fn (if(b.kind==CallKind.early)=true then #[]else #[])):=by
  show aN P true {frame:=b.at a _,callers:=cs,status:=.running,dying:=none} w=_;rw[hg,Y];rfl
 have U:=(GC.send (P:=P) ac hc hb).next
 have aa:(b.at a (.inRegion ops [i]::k)).finish b3=b.at a (.inRegion ops []::k):=by
  rw[bq,ho];simp[Act.put,hd]
 refine⟨.normal,a,_,h,.head U ?_⟩;show Steps P (aV ((b.at a (.inRegion ops [i]::k)).finish b3) cs _) _;rw[aa];exact .one step_region_end
theorem jI{id last:Nat}{tl:List Nat}{a:Act}{w:World}{Sd:Act->World->Prop}(hm:P.follows .mixedOrders=true)(h:WS P .any ops last (· = tl) Sd ops.size (aC ops.size false) (nV w) a)(U:∀a y,Sd a y->y.tape=w.tape->pj P ops Q (last::tl) a y):(Code.region id ops true).wp P Q a w:=by
 intro b k cs;obtain⟨e,Y,w',hq,O⟩:=WS.sound (Ju (P:=P) (ops:=ops) (Q:=Q) (τ₀:=w.tape)) (λa y l hl hh=>by rw[show l=tl from hl]; exact U a y hh) _ _ _ _ a {w with drawn:=w.drawn+1} (nV.free w) (nV.at w _) h rfl b k cs;refine⟨e,Y,w',hq,.of_steps (.one ?_) O⟩;rw[step_region_draw];simp only[a9,hm,bd,if_true];rfl
end
end
section
open Go.RowKit
open Go.Conc
variable {Sd:Act->World->Prop} {ops:Array Oper} {id last:Nat}
section
variable {P:Program} {E:Env P} {fn:aL} {tm:Array Value} {os:List OF} {wl:World} {V:List (Nat×Option (List Value))} {k:List Item}
theorem lz.calls{i:Nat}{rest:List Nat}{o:Oper}{f:aL}{args:Array Value}{R:Ending->World->Prop}(hi:ops[i]?=some o)(hC:∀τ,Ch τ wl->Calls P f args (tp wl τ) R)(hR:∀e w',R e w'->∃v,e=.returned v/\gp E (⟨fn,iF o.dst tm v,.inRegion ops rest::k⟩::os) w' V) :
  lz E ⟨bp P f args .normal,[door P],wl⟩ (⟨fn,tm,.inRegion ops (i::rest)::k⟩::os) V:=by
 let U:LS->Prop:=λS=>S.cs=[door P]/\∃v,S.fr.leaving P S.w (.returned v)/\R (.returned v) S.w;refine lz.pW (Stop:=λS=>∃τ,U (S.on τ)) (λS τ ⟨O,h⟩=>⟨O,h⟩) (λO aa=>?_) λS' ⟨O,hc,v,hl,hr⟩=>?_
 .obtain⟨e,w',fr,hr,Y,_,ab⟩:=hC O aa _;obtain⟨v,rfl,_⟩:=hR e w' hr;obtain⟨n,hn⟩:=Y;exact⟨n,⟨fr,[door P],w'⟩,hn,⟨w'.tape,rfl,v,ab,hr⟩,by simp⟩
 .obtain⟨v',hv,hW⟩:=hR _ _ hr;cases hv;exact lz.tape (τ:=O) (lz.ret hi hc hl hW)
theorem gp.any{i:Nat}{rest:List Nat}{o:Oper}(hi:ops[i]?=some o)(aw:a5 o (aJ ops tm)=true)(ho:OkOp P E.je E.gl E.st o.op)
  (ag:∀τ,l6 P (tp wl τ) (λv y=>gp E (⟨fn,iF o.dst tm v,.inRegion ops rest::k⟩::os) y V) ((aK (ll tm) o).run P (tp wl τ))):gp E (⟨fn,tm,.inRegion ops (i::rest)::k⟩::os) wl V:=by
 intro m Pd ρ gs w sl t fr' cs' Y ax an ah h0;refine turn (Z:=E.Z) (a:=G fr' cs') (K:=λj=>(ρ j).sum) (N:=gs.size) rfl ?_ ρ gs w sl t ax (λ_=>rfl) h0 rfl;intro ρ' gs' w' ay ab d t' ac hK ai hN;have aj:=ah
 cases ah with
 |@cons _ _ O l ht az=>
  have hs:=Gz Y.rL.env Y.rL.strict Y.rL.kK (gl:=E.gl) (ρ:=ll tm) (ρ':=ll O) (λx hx=>Lx ht Y.rL.qT x hx) (λc=>⟨rfl,rfl⟩) o (by rw[Y.je]; exact ho);have ao:=ac.main.tp (along wl (w'.at d));have ap:=hs.run (tp wl (along wl (w'.at d))) (w'.at d) #[] ao (r9 wl (w'.at d));have aq:=hs.loc (tp wl (along wl (w'.at d))) (w'.at d) ao;have hJ:=ag (along wl (w'.at d));have hy:a5 o (aJ ops O)=true:=by rw[show aJ ops O=aJ ops tm from funext (ou ops ht)]; exact aw
  have ar:=ol (P:=P) (fn:=fn) (k:=k) (rest:=rest) (cs':=cs') (w:=w'.at d) hi hy;have au:0<gs'.size:=(aE.1 ai).1;have ad:=λv'=>lD fn O ops i rest k v';simp only[hi,bw]at ad
  cases ae:(aK (ll tm) o).run P (tp wl (along wl (w'.at d)))with
  |halt x wn=>rw[ae]at hJ; exact hJ.elim
  |ok n wn=>
   rw[ae]at hJ ap;obtain⟨U,n',w₁,es,e1,e2,e3,e4,_,e5,e6⟩:=ap;rw[aI]at e1
   have av:∀e∈aU P fn (if(CallKind.normal==CallKind.early)=true then #[]else es),qY U e:=λe he=>by
    have:=mem_seen he;split at this
    .simp at this
    .exact e6 e this
   have val:∀v v',VR U v v'->gp E (⟨fn,iF o.dst tm v,.inRegion ops rest::k⟩::os) wn V->aX P true (j0 fn O (.inRegion ops (i::rest)::k)) cs' none (aK (ll O) o) (w'.at d)=.go (G (j0 fn (iF o.dst O v') (.inRegion ops rest::k)) cs') w₁ (aU P fn (if(CallKind.normal==CallKind.early)=true then #[]else es))->E.Z.Fin (crowd gs' w' ay) (runT P (crowd gs' (w'.at d) ab) 0) t':=by
    intro v v' hv hW ak;have al:=runT_crowd_go (P:=P) (sl:=ab) (i:=0) ai (show aN P (0==0) _ (w'.at d)=_ from ar.trans ak);rw[al];refine E.Z.next _ _ _ _ ?_;exact hW U Pd ρ' _ _ ab _ _ _ (Y.le e2 e5) (ac.yZ (gs':=(gs'.map (woken P _ _ w₁)).setIfInBounds 0 (G (j0 fn (iF o.dst O v') (.inRegion ops rest::k)) cs')) e2 e5 av e4 (by simp) (jT _)) (an.le e2 hK) (.cons (o:=⟨fn,iF o.dst tm v,.inRegion ops rest::k⟩) ((ht.mono e2).iF o.dst hv) (az.mono e2)) (by simp[au])
   cases n<;>simp only[l6]at hJ
   case value v=>
    cases e3 with
    |@value _ v' hv=>
     refine val v v' hv hJ ?_;unfold aX;simp only[if_true,e1,ad];simp[bu,G,j0]
   case skip=>
    cases e3 with
    |skip=>
     refine val b3 b3 (.undef U) hJ ?_;unfold aX;simp only[if_true,e1,ad];simp[bu,G,j0]
   case enter f args=>
    obtain⟨rfl,hc⟩:=hJ
    have ji:∀τ,Ch τ (tp wl (along wl (w'.at d)))->Calls P f args (tp (tp wl (along wl (w'.at d))) τ) λe a0=>∃v,e=.returned v/\gp E (⟨fn,iF o.dst tm v,.inRegion ops rest::k⟩::os) a0 V:=by
     intro τ _;rcases aq with⟨x,w2,ex,_⟩|⟨_,_,h3⟩
     .rw[ae]at ex; cases ex
     .have h4:=h3 τ (by rw[ae]; intro j a b; simp only[DM]at b; omega);rw[ae]at h4;have h4:(aK _ o).run P (tp wl τ)=.ok _ _:=h4;have h5:=ag τ;rw[h4]at h5;exact h5.2
    have hW:=lz.calls (E:=E) (fn:=fn) (tm:=tm) (os:=os) (V:=V) (k:=k) (rest:=rest) hi ji λe w' h=>h
    cases e3 with
    |@enter _ _ am hf hb ha=>
     have ak:aX P true (j0 fn O (.inRegion ops (i::rest)::k)) cs' none (aK (ll O) o) (w'.at d)=.go (G (bp P f am .normal) (j0 fn O (.inRegion ops (i::rest)::k)::cs')) w₁ (aU P fn (if(CallKind.normal==CallKind.early)=true then #[]else es)):=by
      unfold aX;simp only[if_true,e1];simp[bu,G,j0]
     have al:=runT_crowd_go (P:=P) (sl:=ab) (i:=0) ai (show aN P _ _ _=_ from ar.trans ak);rw[al];refine E.Z.next _ _ _ _ ?_;have aa:=Y.le e2 e5;have af:=aj.mono e2;exact hW U Pd ρ' _ _ ab _ _ _ _ aa (ac.yZ (gs':=(gs'.map _).setIfInBounds 0 _) e2 e5 av e4 (by simp) (jT _)) (an.le e2 hK) af (.one (EQ (aa.rL.env.calls f hf) hb ha _ _) rfl (.inl ⟨rfl,vZ (.inl (by simp)) af⟩) rfl) (by simp[au])
theorem wO(o:Option Tmp)(tm:Array Value)(v:Value):(Act.put ⟨tm,[]⟩ o v)=⟨iF o tm v,[]⟩:=by cases o<;>rfl
def Ur(E:Env P)(fn:aL)(ops:Array Oper)(k:List Item)(os:List OF)(V:List (Nat×Option (List Value)))(l:List Nat)(a:Act)(w:World):Prop:=a.defers=[]->gp E (⟨fn,a.tmps,.inRegion ops l::k⟩::os) w V
theorem IU(Y:∀(i:Nat)o,i≠last->ops[i]?=some o->OkOp P E.je E.gl E.st o.op):K1 P ops last (Ur E fn ops k os V) where
 op:=by
  intro i rest a w o hl U hw hj O;obtain⟨tm,df⟩:=a;simp only at O;subst O;refine gp.any U hw (Y i o hl U) λτ=>?_;have:=hj τ;unfold jC at this;refine l6.mono (λv y ⟨_,h⟩=>?_) this;rw[wO]at h;exact h rfl
 pass:=by
  intro i rest a w o _ U hw h O;obtain⟨tm,df⟩:=a;simp only at O;subst O;rw[wO]at h;exact gp.pass U hw (h rfl)
theorem gp.Ig{tl:List Nat->Prop}(hm:P.follows .mixedOrders=true)(O:∀(i:Nat)o,i≠last->ops[i]?=some o->OkOp P E.je E.gl E.st o.op)(h:WS P .any ops last tl Sd ops.size (aC ops.size false) (nV wl) ⟨tm,[]⟩)
  (U:∀a y l,tl l->Sd a y->a.defers=[]/\gp E (⟨fn,a.tmps,.inRegion ops (last::l)::k⟩::os) y V):gp E (⟨fn,tm,.code (.region id ops true)::k⟩::os) wl V:=by
 refine gp.RP λt=>?_;simp only[a9,hm,bd,if_true];exact WS.sound (IU O) (λa y l Y h _=>(U a y l Y h).2) _ t _ _ _ wl (nV.free wl) (nV.at wl _) h rfl
theorem gp.K4{tl:List Nat}(hm:P.follows .mixedOrders=true)(O:∀(i:Nat)o,i≠last->ops[i]?=some o->OkOp P E.je E.gl E.st o.op)(h:WS P .any ops last (· = tl) Sd ops.size (aC ops.size false) (nV wl) ⟨tm,[]⟩)
  (U:∀a y,Sd a y->a.defers=[]/\gp E (⟨fn,a.tmps,.inRegion ops (last::tl)::k⟩::os) y V):gp E (⟨fn,tm,.code (.region id ops true)::k⟩::os) wl V:=
 gp.Ig hm O h λa y l Y hh=>by rw[show l=tl from Y]; exact U a y hh
end
end
section
open Go.Conc
variable {p:Addr} {tm:Array Value} {v:Value}
structure AM(P:Program)(f:aL)(jQ:Func)(s:Tmp)(ty:aR)(ops:Array Oper)(rest:Code):Prop where
 fn:P.funcs[f]?=some jQ
 body:jQ.body=some (.seq (.region 0 ops false) rest)
 name:jQ.name≠ "runtime.NumGoroutine"
 two:∃q0 q1 a0 a1,ops=#[{dst:=some s,op:=.load ty (.tmp 0),type:=ty,pos:=q0,after:=a0,guard:=none},{dst:=none,op:=.defer {callee:=.builtin .close,args:=#[.tmp s],argTypes:=#[ty]},type:=0,pos:=q1,after:=a1,guard:=none}]
 load:∀(a:Addr)(v:Value)(w:World),w.cell? a=some v->(b2 ty (.pointer (some a)) >>= λv=>(pure (.value v):Sem Go.Next)).runT P w #[]=(.ok (.value v) w,#[⟨.cell a,false,false⟩])
def za(P:Program):Frame:={(default:Frame)with fn:=P.funcs.size,defers:=[],mode:=.panicking [goexitEntry]}
section
variable {P:Program} {f:aL} {jQ:Func} {s:Tmp} {ty:aR} {ops:Array Oper} {rest:Code}
def F9(f:aL)(tm:Array Value)(td:List Item)(O:List Deferred):Frame:=⟨f,tm,td,O,.run,.deferred,none⟩
theorem E3(O:AM P f jQ s ty ops rest)(cap:Array Value)(w:World):aN P false (nC P ⟨.fn (.func f) cap,#[]⟩) w=.go (G (F9 f (cap++aC (jQ.ntmps-cap.size) b3) [.code (.seq (.region 0 ops false) rest)] []) [za P]) w #[]:=by
 have Y:(jQ.name == "runtime.NumGoroutine")=false:=by simpa using O.name
 have U:(invoke (.fn (.func f) cap) #[]).runT P w #[]=(.ok (.enter f cap) w,#[]):=by
  have e:invoke (.fn (.func f) cap) #[]=callFunc f _:=rfl;rw[e,aI];unfold callFunc;have e2:∀k:Program->Sem Go.Next,(program >>= k).runT P w #[]=(k P).runT P w _:=λk=>rfl;rw[e2];simp only[O.fn,Y,O.body,ba,if_false,Option.isNone_some];rfl
 have e1:aN P false (nC P ⟨.fn (.func f) cap,#[]⟩) w=aW P (za P) [] none ⟨.fn (.func f) cap,#[]⟩ w:=rfl;rw[e1];unfold aW;simp only[U,Bool.false_and,ba,if_false];simp[bu,G,F9,bp,O.fn,O.body,aU]
theorem Ie(f:aL)(tm:Array Value)(td:List Item)(O:List Deferred):(F9 f tm td O).eval=ll tm:=by funext x; cases x<;>rfl
theorem GV(hc:AM P f jQ s ty ops rest){w:World}{ps:Frame}(hq:(P.funcs[f]?).any (·.norace)=false)(hp:tm.getD 0 b3=.pointer (some p))(hv:w.cell? p=some v) :
  aN P false (G (F9 f tm [.inRegion ops [0,1],.code rest] []) [ps]) w=.go (G (F9 f (tm.setIfInBounds s v) [.inRegion ops [1],.code rest] []) [ps]) w #[⟨.cell p,false,false⟩]:=by
 obtain⟨q0,q1,a0,a1,U⟩:=hc.two;have e:aN P false (G (F9 f tm [.inRegion ops [0,1],.code rest] []) [ps]) w=aY P false true (F9 f tm [.inRegion ops [0,1],.code rest] []) _ none w:=rfl;rw[e];have he:=Ie f tm [.inRegion ops [0,1],.code rest] []
 have Y:(aK (ll tm) {dst:=some s,op:=.load ty (.tmp 0),type:=ty,pos:=q0,after:=a0,guard:=none}).runT P w #[]=(.ok (.value v) w,#[⟨.cell p,false,false⟩]):=by
  have e1:aK (ll tm) {dst:=some s,op:=.load ty (.tmp 0),type:=ty,pos:=q0,after:=a0,guard:=none}=(b2 ty _ >>= λv=>pure _):=rfl;rw[e1];have e2:ll tm (.tmp 0)=.pointer _:=hp;rw[e2];exact hc.load p v w hv
 unfold aY;have O:ops[0]?=some {dst:=some s,op:=.load ty (.tmp 0),type:=ty,pos:=q0,after:=a0,guard:=none}:=by rw[U]; rfl
 simp only[F9,O,bx,bv];rw[if_pos (by simp[a5])];unfold aZ;simp only[bs,O];have aa:bt ⟨f,tm,[.inRegion ops _,.code rest],[],.run,.deferred,none⟩=ll tm:=he;rw[aa];unfold aX;simp only[if_true,Y];simp[bu,G,br,O,aU,hq]
def Ti(s:Tmp):Array Bool:=(#[Operand.tmp s]).map fun|.const _=>true|_=>false
theorem DU(hc:AM P f jQ s ty ops rest){w:World}{ps:Frame}(hs:tm.getD s b3=v):aN P false (G (F9 f tm [.inRegion ops [1],.code rest] []) [ps]) w=.go (G (F9 f tm [.inRegion ops [],.code rest] [⟨.builtin .close #[ty] 0 (Ti s),#[v]⟩]) [ps]) w #[]:=by
 obtain⟨q0,q1,a0,a1,U⟩:=hc.two;have e:aN P false (G (F9 f tm [.inRegion ops [1],.code rest] []) [ps]) w=aY P false true (F9 f tm [.inRegion ops [1],.code rest] []) _ none w:=rfl;have he:=Ie f tm [.inRegion ops [1],.code rest] []
 have Y:(aK (ll tm) {dst:=none,op:=.defer {callee:=.builtin .close,args:=#[.tmp s],argTypes:=#[ty]},type:=0,pos:=q1,after:=a1,guard:=none}).runT P w #[]=(.ok (.defer ⟨.builtin .close #[ty] 0 (Ti s),#[v]⟩) w,#[]):=by
  have ha:(#[Operand.tmp s]).map (ll tm)=#[v]:=by simp[ll,Act.eval,<-hs]
  have e1:aK (ll tm) {dst:=none,op:=.defer {callee:=.builtin .close,args:=#[.tmp s],argTypes:=#[ty]},type:=0,pos:=q1,after:=a1,guard:=none}=pure _:=rfl;rw[e1,ha];rfl
 rw[e];unfold aY;have O:ops[1]?=some {dst:=none,op:=.defer {callee:=.builtin .close,args:=#[.tmp s],argTypes:=#[ty]},type:=0,pos:=q1,after:=a1,guard:=none}:=by rw[U]; rfl
 simp only[F9,O,bx,bv];rw[if_pos (by simp[a5])];unfold aZ;simp only[bs,O];have aa:bt ⟨f,tm,[.inRegion ops _,.code rest],[],.run,.deferred,none⟩=ll tm:=he;rw[aa];unfold aX;simp only[if_true,Y];simp[bu,G,br,O,aU]
theorem Cm{J:pC}{m:Ren}{S:LS}{cap O:Array Value}(hc:AM P f jQ s ty ops rest)(hq:(P.funcs[f]?).any (·.norace)=false)(ai:nW P m J.gl false)(ab:¬m.kK)(aj:Open m)(hJ:J.Ren m)(hT:J.T=[za P])(U:io m cap O)(ak:cap[0]?=some (.pointer (some p)))(aw:s≠0)(hs:s<jQ.ntmps)(hn:cap.size<=jQ.ntmps)(al:S.w.cell? p=some (.chan (some J.r)))(am:jn m.ok rest)
  (hS:S.fr=⟨f,(cap++aC (jQ.ntmps-cap.size) b3).setIfInBounds s (.chan (some J.r)),[.code rest],[⟨.collected J.rd,#[.chan (some J.r)]⟩],.run,.normal,none⟩) (ac:S.cs=[door P]):tO P J m S 5 (nC P ⟨.fn (.func f) O,#[]⟩):=by
 have ax:∀w:World,w.at w.drawn=w:=λw=>rfl;obtain⟨q',ad,an⟩:=U.get ak
 have ao:∃p',q'=.pointer (some p')/\AR m p p':=by
  cases an with
  |ptr ha=>exact⟨_,rfl,ha⟩
 obtain⟨p',rfl,ae⟩:=ao
 have af:(O++aC (jQ.ntmps-O.size) b3).getD 0 b3=.pointer (some p'):=by
  have ap:0<O.size:=(aE.1 ad).1;rw[aF,Array.getElem?_append_left ap,ad];rfl
 have aa:∀w,WR m S.w w->w.cell? p'=some (.chan (some J.c)):=by
  intro w Y;obtain⟨v',aq,ar⟩:=Y.cell ae al
  cases ar with
  |chan hb=>
   rw[hJ.ch]at hb;cases hb;exact aq
 have au:O.size=cap.size:=U.size.symm;refine⟨rfl,λw Y=>⟨_,w.drawn,#[],E3 hc O w,by simp,?_⟩⟩;refine⟨rfl,λw Y=>⟨G (F9 f (O++aC (jQ.ntmps-O.size) b3) [.code (.region 0 ops false),.code rest] []) [za P],w.drawn,#[],rfl,by simp,?_⟩⟩;refine⟨rfl,λw Y=>⟨G (F9 f (O++aC (jQ.ntmps-O.size) b3) [.inRegion ops [0,1],.code rest] []) [za P],w.drawn,#[],?_,by simp,?_⟩⟩
 .obtain⟨q0,q1,a0,a1,ag⟩:=hc.two;have:bk ops.size=[0,1]:=by rw[ag]; rfl
  show aY P false true (F9 f (O++aC (jQ.ntmps-O.size) b3) [.code (.region 0 ops false),.code rest] []) [za P] none w=_;unfold aY;simp[F9,G,this];rfl
 refine⟨rfl,λw Y=>⟨_,w.drawn,_,GV (ps:=za P) hc hq af (aa w Y),?_,?_⟩⟩
 .intro e he;simp only[List.mem_toArray,bf,be,or_false]at he;subst he;exact⟨rfl,p,ae,λh=>by cases h⟩
 have ah:((O++aC (jQ.ntmps-O.size) b3).setIfInBounds s (.chan (some J.c))).getD s b3=.chan (some J.c):=by
  have hz:(O++aC (jQ.ntmps-O.size) b3).size=jQ.ntmps:=by simp; omega
  have:s<(O++aC (jQ.ntmps-O.size) b3).size:=by rw[hz]; exact hs
  rw[aF,Array.getElem?_setIfInBounds_self_of_lt this];rfl
 have av:=λw=>DU (ps:=za P) (w:=w) hc ah;refine⟨rfl,λw Y=>⟨_,w.drawn,#[],av w,by simp,?_⟩⟩;refine⟨rfl,λw Y=>⟨F9 f _ _ _,[za P],w.drawn,#[],rfl,by simp,?_⟩⟩;refine⟨ai,ab,aj,?_,Y.at _⟩;rw[ac,hS,hT];refine .one ⟨rfl,?_,.cons (.code rest am) .nil,.cons ⟨.mark _ _ _ hJ.dead,.one (.chan hJ.ch)⟩ .nil,.run,.none⟩ rfl (.inr ⟨rfl,za P,rfl,rfl⟩) rfl;rw[au];exact(U.append (.replicate _ (.undef m))).set s (.chan hJ.ch)
end
end
section
open Go.Conc
variable {c:Array Value} {caps:List Nat} {r:Nat}
structure Ren.Bn(m m':Ren):Prop where
 blk:m'.blk=m.blk
 ch:m'.ch=m.ch
 ok:m'.ok=m.ok
 je:m'.je=m.je
 kK:m'.kK=m.kK
 dead:m'.dead=m.dead
 dm:m'.dm=m.dm
 G:m'.G=m.G
 ur:m'.ur=m.ur
section
variable {m m':Ren}
theorem AR.mN(h:m.Bn m'){a O:Addr}(x:AR m a O):AR m' a O:=by cases x with|mk hb=>exact .mk (by rw[h.blk]; exact hb)
theorem Oc.mN(h:m.Bn m'){a O:Fn}(x:Oc m a O):Oc m' a O:=by
 cases x with
 |func f U=>exact .func f (by rw[h.je]; exact U)
 |yield hb=>exact .yield (by rw[h.blk]; exact hb)
theorem VR.mN(h:m.Bn m'){v v':Value}(x:VR m v v'):VR m' v v':=by
 induction x with
 |jw v hv=>exact .jw v hv
 |sV O _ Y U=>exact .sV O U Y
 |bool|int|string|jY|jg|oV|lF|nilFunc|nilIface=>constructor
 |ptr ha=>exact .ptr (ha.mN h)
 |slice l c ha=>exact .slice l c (ha.mN h)
 |map hb=>exact .map (by rw[h.blk]; exact hb)
 |gone hd=>rw[<-h.dm]; exact .gone (by rw[h.dead]; exact hd)
 |chan hb=>exact .chan (by rw[h.ch]; exact hb)
 |func hf O _ Y _ i1 i2=>exact .func (hf.mN h) O i1 Y i2
 |iface t _ U=>exact .iface t U
 |agg O _ U=>exact .agg O U
 |tuple O _ U=>exact .tuple O U
theorem io.mN(h:m.Bn m'){O:Array Value}(x:io m c O):io m' c O:=gW.mono (λ_ _=>VR.mN h) x
theorem TR.mN(h:m.Bn m'){a O:Target}(x:TR m a O):TR m' a O:=by
 cases x with
 |fn U=>exact .fn (U.imp (λy=>⟨y.1.mN h,y.2.mN h⟩) id)
 |nil=>exact .nil
 |builtin a t c hm=>exact .builtin a t c (by rw[h.kK]; exact hm)
 |mark a t c Y=>exact .mark a t c (by rw[h.dead]; exact Y)
 |collected hb=>exact .collected (by rw[h.blk]; exact hb)
theorem DR.mN(h:m.Bn m'){a O:Deferred}(x:DR m a O):DR m' a O:=⟨x.target.mN h,x.args.mN h⟩
theorem vm.mN(h:m.Bn m'){a O:MapEntry}(x:vm m a O):vm m' a O:=⟨x.key.mN h,x.val.mN h,x.born⟩
theorem yj.mN(h:m.Bn m'){a O:Loop}(x:yj m a O):yj m' a O:=
 ⟨x.state,x.pending,λc U=>by rw[h.ok]; exact x.U1 c U,x.fn,x.tmps.mN h,x.params,x.assign,x.body,by rw[h.ok]; exact x.Un,by rw[h.ok]; exact x.yW,by rw[h.blk]; exact x.defers⟩
theorem OR.mN(h:m.Bn m'){a O:Obj}(x:OR m a O):OR m' a O:=by
 cases x with
 |cells e f f' U=>exact .cells e f f' (U.mN h)
 |map clock Y=>exact .map clock (gW.mono (λ_ _ y=>y.mN h) Y)
 |number l ha=>exact .number l (ha.mN h)
 |stringIter s p=>exact .stringIter s p
 |j9 a b c=>exact .j9 a b c
 |mapIter a b c hb=>exact .mapIter a b c (by rw[h.blk]; exact hb)
 |loop hl=>exact .loop (hl.mN h)
 |iR=>exact .iR
 |deferred hd=>exact .deferred (gW.mono (λ_ _ y=>y.mN h) hd)
theorem qx.mN(h:m.Bn m'){T:List Frame}{os:List OF}{l:List Frame}(x:qx m T os l):qx m' T os l:=by
 induction x with
 |nil=>exact .nil
 |cons O _ U=>exact .cons (O.mN h) U
end
def PK:Obj->Obj
 |.cells c e _=>.cells c e (0,c.size)
 |o=>o
def uR(w:World)(caps:List Nat):World:={w with heap:=w.heap.mapIdx λi o=>if i∈caps then PK o else o}
def Ren.C2(m:Ren)(caps:List Nat):Ren:={m with loose:=λr=>m.loose r\/r∈caps}
theorem Ren.CH(m:Ren)(caps:List Nat):m.Bn (m.C2 caps):=⟨rfl,rfl,rfl,rfl,rfl,rfl,rfl,rfl,rfl⟩
theorem zF(w:World)(caps:List Nat)(r:Nat):(uR w caps).heap[r]?=(w.heap[r]?).map λo=>if r∈caps then PK o else o:=by
 unfold uR;simp only[Array.getElem?_mapIdx]
theorem vQ(w:World)(caps:List Nat):(uR w caps).heap.size=w.heap.size:=by simp[uR]
theorem sF(w:World)(h:r ∉ caps):(uR w caps).heap[r]?=w.heap[r]?:=by
 rw[zF];cases w.heap[r]?<;>simp[h]
theorem BH(w:World)(h:r∈caps){e:aR}{f:Nat×Nat}(O:w.heap[r]?=some (.cells c e f)):(uR w caps).heap[r]?=some (.cells c e (0,c.size)):=by
 rw[zF,O];simp[h,PK]
theorem WR.C2{m:Ren}{wl w:World}(h:WR m wl w)(hc:∀r∈caps,∃c e f,wl.heap[r]?=some (.cells c e f))(hd:∀r∈caps,¬m.dead r):WR (m.C2 caps) (uR wl caps) w:=by
 have mN:=m.CH caps
 have back:∀r c e f,(uR wl caps).heap[r]?=some (.cells c e f)->∃f0,wl.heap[r]?=some (.cells c e f0)/\(r ∉ caps->f0=f)/\(r∈caps->f=(0,c.size)):=by
  intro r c e f hr;by_cases O:r∈caps
  .obtain⟨c0,e0,f0,U⟩:=hc r O;rw[BH wl O U]at hr;cases hr;exact⟨f0,U,λx=>absurd O x,λ_=>rfl⟩
  .rw[sF wl O]at hr;exact⟨f,hr,λ_=>rfl,λx=>absurd x O⟩
 refine⟨λr r' hb=>?_,λr r' c e f c' e' f' hb h1 h2 hn=>?_,λr r' c e f c' e' f' hb h1 h2 hl=>?_,λr r' hb=>?_,?_,h.LR,h.os,λr o ho=>?_,λr r' hb hl=>?_,λr hr=>?_,λr i v hv=>?_⟩
 .obtain⟨o,o',g1,g2,g3⟩:=h.obj r r' hb;by_cases O:r∈caps
  .obtain⟨c0,e0,f0,U⟩:=hc r O;rw[U]at g1;cases g1
   cases g3 with
   |cells _ _ f' aa=>exact⟨_,_,BH wl O U,g2,.cells _ _ _ (aa.mN mN)⟩
  .exact⟨o,o',by rw[sF wl O]; exact g1,g2,g3.mN mN⟩
 .obtain⟨f0,U,x,_⟩:=back r c e f h1;have Y:=λy=>hn (.inr y);rw[<-x Y];exact h.fz r r' c e f0 c' e' f' hb U h2 λy=>hn (.inl y)
 .obtain⟨f0,U,x,y⟩:=back r c e f h1;by_cases O:r∈caps
  .rw[y O];exact λo ho=>⟨bo _,ho⟩
  .rw[<-x O];exact h.all r r' c e f0 c' e' f' hb U h2 (hl.resolve_right O)
 .have:=h.NY r r' hb;exact⟨by rw[vQ]; exact this.1,this.2⟩
 .rw[vQ]; exact h.Od
 .obtain⟨g1,g2⟩:=h.n5 r o ho;refine⟨?_,g2⟩
  have Y:r ∉ caps:=λO=>by
   obtain⟨c0,e0,f0,U⟩:=hc r O;obtain⟨a,b,c,d,e,f,rfl⟩:=g2;rw[U]at g1;cases g1
  rw[sF wl Y]; exact g1
 .by_cases O:r∈caps
  .obtain⟨c0,e0,f0,U⟩:=hc r O;exact⟨_,_,_,BH wl O U⟩
  .obtain⟨c0,e0,f0,U⟩:=h.lk r r' hb (hl.resolve_right O);exact⟨_,_,_,by rw[sF wl O]; exact U⟩
 .obtain⟨g1,c0,e0,f0,g⟩:=h.dead r hr;have Y:=λO=>hd r O hr;exact⟨g1,c0,e0,f0,by rw[sF wl Y]; exact g⟩
 .obtain⟨r',hb,hp⟩:=h.ur r i v hv;refine⟨r',hb,λc e f c' e' f' x g1 g2=>?_⟩;obtain⟨f0,U,_,_⟩:=back r c e f g1;exact hp c e f0 c' e' f' x U g2
end
section
open Go.Conc
variable {c i:Nat} {B:Nat->Nat} {M:Option Nat}
def Uj:Obj:=.cells #[] 0 (0,0)
def LA(C:Nat->Obj)(ch ex:Obj):Array Obj:=#[Uj,Uj,Uj,Uj,Uj,C 0,C 1,C 2,C 3,Uj,ch,ex]
def JJ(B:Nat->Nat)(M:Option Nat)(r:Nat):Option Nat:=if 5<=r/\r<9 then some (B (r-5))else if r=11 then M else none
structure Vu(B:Nat->Nat)(M:Option Nat):Prop where
 low:∀i,i<4->5<=B i
 inj:∀i j,i<4->j<4->B i=B j->i=j
 V':∀b,M=some b->5<=b
 VS:∀b i,M=some b->i<4->B i≠b
theorem kA{r b:Nat}(h:JJ B M r=some b):(∃i,i<4/\r=5+i/\b=B i)\/(r=11/\M=some b):=by
 unfold JJ at h;split at h
 .exact .inl ⟨r-5,by omega,by omega,(Option.some.inj h).symm⟩
 .split at h
  .rename_i O; exact .inr ⟨O,h⟩
  .cases h
theorem NK(B:Nat->Nat)(M:Option Nat)(hi:i<4):JJ B M (5+i)=some (B i):=by
 unfold JJ;rw[if_pos (by omega)];congr 2;omega
def Ct{B:Nat->Nat}{M:Option Nat}(h:Vu B M)(c:Nat)(ch:Obj):Ren where
 blk:=JJ B M
 ch:=λr=>if r=10 then some c else none
 loose:=λr=>5<=r/\r<9
 ok:=Ou prog vW DQ false
 je:=λf=>vW f=true
 kK:=False
 dead:=λr=>r=9
 dm:=λ_=>0
 ur:=λ_ _=>none
 n5:=λr=>if r=10 then some ch else none
 G:=5
 qT:=λr r' O=>by
  rcases kA O with⟨i,hi,rfl,rfl⟩|⟨rfl,U⟩
  .have:=h.low i hi
   constructor<;>intro x<;>omega
  .have:=h.V' r' U
   constructor<;>intro x<;>omega
 inj:=λr s t O Y=>by
  rcases kA O with⟨i,hi,rfl,rfl⟩|⟨rfl,U⟩
  .rcases kA Y with⟨j,hj,rfl,e⟩|⟨rfl,U⟩
   .rw[h.inj i j hi hj e]
   .exact absurd rfl (h.VS _ i U hi)
  .rcases kA Y with⟨j,hj,rfl,rfl⟩|⟨rfl,_⟩
   .exact absurd rfl (h.VS _ j U hj)
   .rfl
 xH:=λr s t O Y=>by
  split at O
  .split at Y
   .rename_i e1 e2; rw[e1,e2]
   .cases Y
  .cases O
theorem OE(h:Vu B M)(c:Nat)(ch:Obj):nW prog (Ct h c ch) (λg=>DQ g=true) false:=Sf rfl rfl rfl
theorem Dh(C:Nat->Obj)(ch ex:Obj)(hi:i<4):(LA C ch ex)[5+i]?=some (C i):=by
 match i,hi with
 |0,_=>rfl
 |1,_=>rfl
 |2,_=>rfl
 |3,_=>rfl
theorem WR.T9(h:Vu B M){C:Nat->Obj}{cap:Nat}{ex:Obj}{Sw w:World}(Y:Sw.heap=LA C (.chan cap #[] false 0 0 false) ex)(ab:w.os=Sw.os)(ac:5<=w.heap.size)(hc:c<w.heap.size)
  (U:∀i,i<4->∃a a' e f',C i=.cells a e (0,a.size)/\w.heap[B i]?=some (.cells a' e f')/\io (Ct h c (.chan cap #[] false 0 0 false)) a a')
  (hM:∀b,M=some b->∃o',w.heap[b]?=some o'/\OR (Ct h c (.chan cap #[] false 0 0 false)) ex o'/\∀a e f,ex≠.cells a e f):WR (Ct h c (.chan cap #[] false 0 0 false)) Sw w:=by
 have get:∀i,i<4->Sw.heap[5+i]?=some _:=λi hi=>by rw[Y]; exact Dh C _ ex hi
 have aa:Sw.heap[11]?=some ex:=by rw[Y]; rfl
 refine⟨λr r' O=>?_,λr r' c1 e1 f1 c2 e2 f2 O h1 h2 hn=>?_,λr r' c1 e1 f1 c2 e2 f2 O h1 h2 hl=>?_,λr r' O=>?_,(by rw[Y]; show 5<=12; omega),ac,ab,λr o O=>?_,λr r' O hl=>?_,λr O=>?_,λr i v hv=>(by cases hv)⟩
 .rcases kA O with⟨i,hi,rfl,rfl⟩|⟨rfl,hm⟩
  .obtain⟨a,a',e,f',x1,x2,x3⟩:=U i hi;exact⟨_,_,by rw[get i hi,x1],x2,.cells e _ f' x3⟩
  .obtain⟨o',x1,x2,_⟩:=hM r' hm;exact⟨_,_,aa,x1,x2⟩
 .rcases kA O with⟨i,hi,rfl,rfl⟩|⟨rfl,hm⟩
  .exact absurd (show(Ct h c _).loose _ from⟨by omega,by omega⟩) hn
  .rw[aa]at h1;obtain⟨_,_,_,x⟩:=hM r' hm;cases h1;exact absurd rfl (x _ _ _)
 .rcases kA O with⟨i,hi,rfl,rfl⟩|⟨rfl,hm⟩
  .obtain⟨a,a',e,f',x1,x2,x3⟩:=U i hi;rw[get i hi,x1]at h1;cases h1;exact λo ho=>⟨bo _,ho⟩
  .exact absurd hl.2 (by omega)
 .have O:(if r=10 then some c else none)=some r':=O;split at O
  .rename_i e;cases O;exact⟨by rw[Y,e]; show 10<12; omega,hc⟩
  .cases O
 .have O:(if r=10 then some _ else none)=some o:=O;split at O
  .rename_i e;cases O;exact⟨by rw[Y,e]; rfl,_,_,_,_,_,_,rfl⟩
  .cases O
 .rcases kA O with⟨i,hi,rfl,rfl⟩|⟨rfl,hm⟩
  .obtain⟨a,a',e,f',x1,x2,x3⟩:=U i hi;exact⟨_,_,_,by rw[get i hi,x1]⟩
  .exact absurd hl.2 (by omega)
 .have e:=O;subst e;exact⟨by simp[Ct,JJ],_,_,_,by rw[Y]; rfl⟩
def Og(P:Program)(f:aL)(L:List Value)(O:World->Prop)(S:LS):Prop:=S.cs=[door P]/\S.fr.mode=.returning/\S.fr.defers=[⟨.collected 9,#[.chan (some 10)]⟩]/\S.fr.fn=f/\Holds S 10 L/\O S.w
def Ue(P:Program)(f:aL)(L:List Value)(c:Nat)(O:World->Prop)(nH:Nat->Nat->Obj->Prop):pC where
 gl:=λg=>DQ g=true
 T:=[za P]
 Stop:=Og P f L O
 r:=10
 c:=c
 rd:=9
 L:=L
 nH:=nH
theorem R7{f:aL}{L:List Value}{O:World->Prop}{nH:Nat->Nat->Obj->Prop}{jQ:Func}(hf:prog.funcs[f]?=some jQ)(hr:jQ.results=#[])(hn:jQ.norace=false)(hb:∀w τ,O (tp w τ)->O w)(hk:∀w,O w->∀r b o,nH r b o->w.heap[r]?=some o/\∀(m:Ren)o',OR m o o'->o'=o):(Ue prog f L c O nH).Ok prog where
 blind:=λS τ ⟨U,Y,h3,h4,h5,h6⟩=>⟨U,Y,h3,h4,h5,hb _ _ h6⟩
 holds:=λS h=>h.2.2.2.2.1;U6:=λS ⟨U,Y,h3,h4,_⟩=>⟨U,Y,h3,jQ,by rw[h4]; exact hf,hr,hn⟩;back:=λS h r b o x=>hk S.w h.2.2.2.2.2 r b o x
 VQ:=⟨za prog,rfl,rfl,rfl,by
  show prog.funcs[prog.funcs.size]?=none
  simp,rfl⟩
end
section
open Go.Conc
variable {m:Ren}
def zt(b:Nat->Nat):Array Value:=#[.pointer (some ⟨b 0,0,none⟩),.pointer (some ⟨b 1,0,none⟩),.pointer (some ⟨b 2,0,none⟩),.pointer (some ⟨b 3,0,none⟩)]
theorem PV(b:Nat->Nat){i:Nat}(hi:i<4):(zt b)[i]?=some (.pointer (some ⟨b i,0,none⟩)):=by
 match i,hi with
 |0,_=>rfl
 |1,_=>rfl
 |2,_=>rfl
 |3,_=>rfl
theorem Pa{b B:Nat->Nat}(h:∀i,i<4->m.blk (b i)=some (B i)):io m (zt b) (zt B):=
 .cons (.ptr (.mk (h 0 (by omega)))) (.cons (.ptr (.mk (h 1 (by omega)))) (.cons (.ptr (.mk (h 2 (by omega)))) (.cons (.ptr (.mk (h 3 (by omega)))) .nil)))
theorem QC{b:Nat->Nat}{O:Array Value}(h:io m (zt b) O):∃B:Nat->Nat,O=zt B/\∀i,i<4->m.blk (b i)=some (B i):=by
 have U:=h.size
 have get:∀i,i<4->∃B,O[i]?=some (.pointer (some ⟨B,0,none⟩))/\m.blk (b i)=some B:=by
  intro i hi;obtain⟨v',Y,h2⟩:=h.get (PV b hi)
  cases h2 with
  |ptr ha=>
   cases ha with
   |mk hb=>exact⟨_,Y,hb⟩
 obtain⟨B0,a0,e0⟩:=get 0 (by omega);obtain⟨B1,a1,e1⟩:=get 1 (by omega);obtain⟨B2,a2,e2⟩:=get 2 (by omega);obtain⟨B3,a3,e3⟩:=get 3 (by omega);refine⟨λi=>match i with|0=>B0|1=>B1|2=>B2|_=>B3,?_,λi hi=>?_⟩
 .apply Array.ext_getElem?;intro i
  match i with
  |0=>rw[a0]; rfl
  |1=>rw[a1]; rfl
  |2=>rw[a2]; rfl
  |3=>rw[a3]; rfl
  |i+4=>
   have:O.size=4:=U.symm;rw[aD (by omega),aD (by show 4<=i+4; omega)]
 .match i,hi with
  |0,_=>exact e0
  |1,_=>exact e1
  |2,_=>exact e2
  |3,_=>exact e3
theorem Rg.C2{P:Program}{E E₂:Env P}(h:Rg E m)(caps:List Nat)(O:∀m:Ren,m.ok=E₂.ok->m.je=E₂.je->m.G=P.globals.size->nW P m E₂.gl E₂.st)(U:E₂.je=E.je)(Y:E₂.ok=E.ok)(hx:E₂.X (m.C2 caps)):Rg E₂ (m.C2 caps):=
 ⟨O _ (h.Tq.trans Y.symm) (h.je.trans U.symm) h.rL.env.G,h.kK,h.oY,h.je.trans U.symm,h.Tq.trans Y.symm,hx⟩
structure VU(E E₂:Env prog)(wl:World)(rc:Nat)(b:Nat->Nat)(cm cd:Nat->Array Value)(te:Nat->aR)(fz:Nat->Nat×Nat)(M:Option Nat)(ex:Obj):Prop where
 z:E₂.Z=E.Z
 t:E₂.T=E.T
 w:E₂.w0=E.w0
 je:E₂.je=E.je
 ok:E₂.ok=E.ok
 rL:∀m:Ren,m.ok=E₂.ok->m.je=E₂.je->m.G=prog.globals.size->nW prog m E₂.gl E₂.st
 x:∀m,Rg E m->E₂.X (m.C2 [b 0,b 1,b 2,b 3])
 fix:∀q,E₂.jl q↔E.jl q/\M≠some q
 low:∀i,i<4->5<=b i
 inj:∀i j,i<4->j<4->b i=b j->i=j
 cells:∀i,i<4->wl.heap[b i]?=some (.cells (cm i) (te i) (fz i))
 live:∀m,Rg E m->∀i,i<4->¬m.dead (b i)
 m0:cm 0=#[.chan (some rc)]
 d0:cd 0=#[.chan (some 10)]
 conv:∀i,1<=i->i<4->∀(m mi:Ren)w a',Rg E m->WR m wl w->(∀q,M=some q->mi.blk 11=some q)->io m (cm i) a'->io mi (cd i) a'
 map:∀q,M=some q->5<=q/\E.jl q/\E.w0.heap[q]?=some ex/\(∀m:Ren,OR m ex ex)/\(∀(m:Ren)o',OR m ex o'->o'=ex)/\(∀a e f,ex≠.cells a e f)/\∀(m:Ren)(r:Nat)(o:Obj),wl.heap[r]?=some o->¬OR m o ex
def uV(wl:World)(cd:Nat->Array Value)(te:Nat->aR)(cap:Nat)(ex:Obj):World:={wl with heap:=LA (λi=>.cells (cd i) (te i) (0,(cd i).size)) (.chan cap #[] false 0 0 false) ex}
def xc(f:aL)(n:Nat)(s:Tmp)(rest:Code):Frame:=⟨f,(zt (λi=>5+i)++aC (n-4) b3).setIfInBounds s (.chan (some 10)),[.code rest],[⟨.collected 9,#[.chan (some 10)]⟩],.run,.normal,none⟩
theorem Hx{E E₂:Env prog}{f:aL}{jQ:Func}{s:Tmp}{ty:aR}{ops:Array Oper}{rest:Code}{wl:World}{rc:Nat}{b:Nat->Nat}{cm cd:Nat->Array Value}{te:Nat->aR}{fz:Nat->Nat×Nat}{M:Option Nat}{ex:Obj}{L:List Value}{cap:Nat}{os:List OF}
  (hc:AM prog f jQ s ty ops rest) (ap:jQ.results=#[]) (aq:jQ.norace=false) (ax:s≠0) (hs:s<jQ.ntmps) (hn:4<=jQ.ntmps) (ay:my (λo=>Fx prog vW DQ false o.op) rest=true) (hL:∀v∈L,Flat v) (O:VU E E₂ wl rc b cm cd te fz M ex)
  (ar:∀τ,∃n aa,runN prog n (aV (xc f jQ.ntmps s rest) [door prog] (tp (uV wl cd te cap ex) τ))=.next (LS.m aa)/\Og prog f L (λw=>M=none\/w.heap[11]?=some ex) aa) :
  Sends E E₂ f (zt b) os os wl (uR wl [b 0,b 1,b 2,b 3]) rc L:=by
 refine⟨O.z,O.t,O.w,λq hq=>((O.fix q).1 hq).1,λv hv=>(hL v hv).eq,λm az w c ab ag hw a0 au ac=>?_⟩;obtain⟨B,rfl,hB⟩:=QC ag;have hG:m.G=5:=by rw[ab.rL.env.G,zP]
 have ah:∀r,r∈[b 0,b 1,b 2,b 3]↔∃i,i<4/\r=b i:=by
  intro r;constructor
  .intro h;simp only[bf,be,or_false]at h;rcases h with h|h|h|h
   .exact⟨0,by omega,h⟩
   .exact⟨1,by omega,h⟩
   .exact⟨2,by omega,h⟩
   .exact⟨3,by omega,h⟩
  .rintro⟨i,hi,rfl⟩
   match i,hi with
   |0,_=>simp
   |1,_=>simp
   |2,_=>simp
   |3,_=>simp
 have ai:∀q,M=some q->∀r,m.blk r≠some q:=by
  intro q hq r U;obtain⟨_,Y,h3,_,_,_,h7⟩:=O.map q hq;obtain⟨o,o',e1,e2,e3⟩:=hw.obj r q U;rw[ac q Y,h3]at e2;cases e2;exact h7 m r o e1 e3
 have hS:Vu B M:=by
  refine⟨λi hi=>?_,λi j hi hj e=>?_,λq hq=>(O.map q hq).1,λq i hq hi e=>?_⟩
  .have:=(m.qT (b i) (B i) (hB i hi)).2;rw[hG]at this;have h5:=O.low i hi;apply Classical.byContradiction;intro hx;have:=this (by omega);omega
  .exact O.inj i j hi hj (m.inj _ _ _ (hB i hi) (e▸hB j hj))
  .exact ai q hq (b i) (e▸hB i hi)
 let mi:=Ct hS c (.chan cap #[] false 0 0 false);have ad:∀q,M=some q->mi.blk 11=some q:=λq hq=>by simp[mi,Ct,JJ,hq]
 have ae:mi.ch 10=some c:=by simp[mi,Ct]
 have av:c<w.heap.size:=by
  obtain⟨s,r,hx⟩:=au;exact mF hx
 have aj:∀i,i<4->∃a',∃f',w.heap[B i]?=some (.cells a' (te i) f')/\io m (cm i) a':=by
  intro i hi;obtain⟨o,o',h1,Y,h3⟩:=hw.obj (b i) (B i) (hB i hi);rw[O.cells i hi]at h1;cases h1
  cases h3 with
  |cells _ _ f' ha=>exact⟨_,f',Y,ha⟩
 have ak:∀i,i<4->∀a',io m (cm i) a'->io mi (cd i) a':=by
  intro i hi a' ha;by_cases h0:i=0
  .subst h0;rw[O.m0]at ha;rw[O.d0];obtain⟨al⟩:=a';unfold io at ha⊢;simp only at ha⊢
   cases ha with
   |cons hv hn=>
    cases hn
    cases hv with
    |chan hb=>
     rw[a0]at hb;cases hb;exact .cons (.chan ae) .nil
  .exact O.conv i (by omega) hi m mi w a' ab hw ad ha
 have a3:WR mi (uV wl cd te cap ex) w:=by
  refine WR.T9 (C:=λi=>.cells (cd i) (te i) (0,(cd i).size)) (ex:=ex) hS rfl hw.os (by have:=hw.LR; omega) av (λi hi=>?_) (λq hq=>?_)
  .obtain⟨a',f',h1,Y⟩:=aj i hi;exact⟨cd i,a',te i,f',rfl,h1,ak i hi a' Y⟩
  .obtain⟨_,Y,h3,h4,_,h6,_⟩:=O.map q hq;exact⟨ex,by rw[ac q Y,h3],h4 mi,h6⟩
 have am:∀r r',mi.ch r=some r'->r=10:=by
  intro r r' U;have U:(if r=10 then some c else none)=some r':=U;split at U
  .rename_i e; exact e
  .cases U
 have aw:=OE hS c (.chan cap #[] false 0 0 false)
 have af:(Ue prog f L c (λw=>M=none\/w.heap[11]?=some ex) (λr q o=>r=11/\M=some q/\o=ex)).Ren mi:=
  ⟨ae,am,rfl,λr q o ⟨h1,Y,_⟩=>by rw[h1]; exact ad q Y⟩
 have an:Open mi:=λr r' U=>by
  have U:(if r=10 then some c else none)=some r':=U;split at U
  .rename_i e;exact⟨cap,#[],0,0,false,by simp[mi,Ct,e]⟩
  .cases U
 let S:LS:=⟨xc f jQ.ntmps s rest,[door prog],uV wl cd te cap ex⟩;have ao:=m.CH [b 0,b 1,b 2,b 3];refine⟨Ue prog f L c (λw=>M=none\/w.heap[11]?=some ex) (λr q o=>r=11/\M=some q/\o=ex),mi,S,5,m.C2 [b 0,b 1,b 2,b 3],rfl,rfl,R7 hc.fn ap aq (λw τ h=>h) (λw hk r q o ⟨h1,Y,h3⟩=>?_),af,λτ _=>?_,?_,a3,?_,ab.C2 _ O.rL O.je O.ok (O.x m ab),hw.C2 (λr U=>?_) (λr U=>?_),rfl,λl hl=>hl.mN ao,λr q U=>⟨r,U,λh=>.inl h⟩,λr q U=>?_,λr r' q h1 Y=>?_,λr q U hf=>?_,λq hq=>?_⟩
 .subst h1 h3;obtain⟨_,_,_,_,h5,_⟩:=O.map q Y;exact⟨hk.resolve_left (by rw[Y]; simp),h5⟩
 .obtain⟨n,aa,h1,Y⟩:=ar τ;exact⟨n,aa,h1,Y,by rw[Y.1]; simp⟩
 .exact⟨cap,#[],0,0,false,rfl,rfl⟩
 .refine Cm (cap:=zt λi=>5+i) (p:=⟨5,0,none⟩) hc (by rw[hc.fn]; simp[aq]) aw (λh=>h) an af rfl (Pa λi hi=>NK B M hi) rfl ax hs hn ?_ (pN ay) rfl rfl;show(uV wl cd te cap ex).cell? ⟨5,0,none⟩=_
  have hg:(uV wl cd te cap ex).heap[5]?=some (.cells #[.chan (some 10)] (te 0) (0,1)):=by
   show(LA _ _ _)[5]?=_;rw[show(5:Nat)=5+0 from rfl,Dh _ _ _ (by omega:(0:Nat)<4),O.d0];rfl
  unfold World.cell?;simp only[hg];rfl
 .obtain⟨i,hi,rfl⟩:=(ah r).1 U;exact⟨_,_,_,O.cells i hi⟩
 .obtain⟨i,hi,rfl⟩:=(ah r).1 U;exact O.live m ab i hi
 .rcases kA U with⟨i,hi,rfl,rfl⟩|⟨rfl,hm⟩
  .exact .inl ⟨b i,hB i hi,λ_=>⟨by omega,by omega⟩⟩
  .obtain⟨_,Y,_,_,_,_,h7⟩:=O.map q hm;exact .inr ⟨Y,ai q hm,λhx=>((O.fix q).1 hx).2 hm⟩
 .rcases kA Y with⟨i,hi,rfl,rfl⟩|⟨rfl,hm⟩
  .have:=m.inj _ _ _ h1 (hB i hi);exact⟨.inr ((ah r).2 ⟨i,hi,this⟩),by omega,by omega⟩
  .exact absurd h1 (ai q hm r)
 .rcases kA U with⟨i,hi,rfl,rfl⟩|⟨rfl,hm⟩
  .exact⟨by omega,by omega⟩
  .exact absurd hm ((O.fix q).1 hf).2
 .by_cases hm:M=some q
  .exact .inr ⟨11,ex,⟨rfl,hm,rfl⟩,(O.map q hm).2.2.1⟩
  .exact .inl ((O.fix q).2 ⟨hq,hm⟩)
end
section
open Go.Conc Go.RowKit
def xD(f:Func):Code:=match f.body with
 |some (.seq _ r)=>r
 |_=>.skip
def opsOf(f:Func):Array Oper:=match f.body with
 |some (.seq (.region _ o _) _)=>o
 |_=>#[]
theorem KR(a:Addr)(v:Value)(w:World)(h:w.cell? a=some v):(b2 167 (.pointer (some a)) >>= λv=>(pure (.value v):Sem Go.Next)).runT prog w #[]=(.ok (.value v) w,#[⟨.cell a,false,false⟩]):=by
 have O:∀w,(isAgg 167).runT prog w #[]=(.ok false w,#[]):=by intro w; kernel_rfl
 have U:(b2 167 (.pointer (some a)) >>= λv=>(pure (.value v):Sem Go.Next))=(isAgg 167 >>= λb=>((if b=true then(do pure (.agg (<-loadCells a (<-sizeOf 167))))else load a) >>= λv=>(pure (.value v)))):=by
  show(loadVar _ a >>= _)=_;unfold loadVar;rw[bind_assoc]
 rw[U];show((isAgg _).bind _).runT .. = _;rw[Sem.runT_bind',O];show(load a >>= λv=>(pure _)).runT .. = _;have Y:(load a >>= λv=>(pure (.value v):Sem Go.Next))=.load _ a _:=rfl;rw[Y];simp only[Sem.runT,h];rfl
theorem Vc:AM prog 120 f120 6 167 (opsOf f120) (xD f120):=
 ⟨by kernel_rfl,by kernel_rfl,by decide,⟨_,_,_,_,rfl⟩,KR⟩
theorem UO:AM prog 116 f116 4 167 (opsOf f116) (xD f116):=
 ⟨by kernel_rfl,by kernel_rfl,by decide,⟨_,_,_,_,rfl⟩,KR⟩
theorem UN:my (λo=>Fx prog vW DQ false o.op) (xD f120)=true:=by kernel_rfl
theorem Us:my (λo=>Fx prog vW DQ false o.op) (xD f116)=true:=by kernel_rfl
end
section
open Go.Conc
def re:Item->Item
 |.code y=>.code (CY y)
 |.inLoop y=>.inLoop (CY y)
 |x=>x
def mJ:Item->Bool
 |.code _|.inLoop _|.inBlock _=>true
 |_=>false
theorem Q0{m:Ren}:∀{k:List Item},k.all mJ=true->gW (ml m) (k.map re) k
 |[],_=>.nil
 |x::k,h=>by
  simp only[bg,bc]at h;refine .cons ?_ (Q0 h.2);cases x<;>first|exact .G1 _|exact .oL _|exact .inBlock _|(simp[mJ]at h)
theorem GW{m:Ren}:∀{k k':List Item},k.all mJ=true->gW (ml m) (k.map re) k'->k'=k
 |[],_,_,h=>by cases h; rfl
 |x::k,_,Y,h=>by
  simp only[bg,bc]at Y
  cases h with
  |cons hi ht=>
   rw[GW Y.2 ht]
   cases x with
   |code y=>
    simp only[re]at hi;generalize O:Item.code _=z at hi
    cases hi with
    |G1 y'=>simp only[CY,Item.code.injEq,Code.cond.injEq]at O; rw[O.2.1]
    |code c U=>simp only[Item.code.injEq]at O; rw[<-O]at U; exact U.1.elim
    |_=>cases O
   |inLoop y=>
    simp only[re]at hi;generalize O:Item.inLoop _=z at hi
    cases hi with
    |oL y'=>simp only[CY,Item.inLoop.injEq,Code.cond.injEq]at O; rw[O.2.1]
    |inLoop c U=>simp only[Item.inLoop.injEq]at O; rw[<-O]at U; exact U.1.elim
    |_=>cases O
   |inBlock i=>
    cases hi;rfl
   |_=>simp[mJ]at Y
theorem tv(id:Nat):∀(k:List Item),aT id (k.map re)=(aT id k).map (·.map re)
 |[]=>rfl
 |x::k=>by
  cases x with
  |inBlock i=>
   simp only[List.map_cons,re];unfold aT;split
   .rfl
   .exact tv id k
  |_=>exact tv id k
theorem exitTo_plain{id:Nat}:∀{k k':List Item},k.all mJ=true->aT id k=some k'->k'.all mJ=true
 |[],_,_,e=>by cases e
 |x::k,k',O,e=>by
  simp only[bg,bc]at O
  cases x with
  |inBlock i=>
   unfold aT at e;split at e
   .cases e; exact O.2
   .exact exitTo_plain O.2 e
  |_=>exact exitTo_plain O.2 e
section
variable {P:Program} {E:Env P} {fn:aL} {tm:Array Value} {os:List OF} {wl:World} {V:List (Nat×Option (List Value))} {k:List Item}
theorem lz.TI{S:LS}(hk:k.all mJ=true)(hf:xv E os)(ab:S.cs=[door P])(ac:S.fr=j0 fn tm (k.map re))(h:gp E (⟨fn,tm,k⟩::os) S.w V):lz E S os V:=by
 intro m Pd ρ gs w sl t fr' cs' Tc ad ae af O U h0;have hF:=U.rX;rw[ab]at U;have Y:=vZ hf O
 obtain⟨rfl,aa⟩:cs'=Tc/\fr'.kind=.normal:=by
  cases U with
  |one _ _ hb _=>
   refine⟨rfl,?_⟩;rcases hb with⟨x,_⟩|⟨_,ps,e,x⟩
   .exact x
   .exact absurd x (Y ps e)
  |cons _ _ _ hx=>cases hx
 rw[ac]at hF;obtain⟨f1,f2,f3,f4,f5,f6⟩:=hF;obtain⟨ag,ah,ai,aj,ak,al,am⟩:=fr';have:=GW hk f3;subst this f1 aa;cases f4;cases f5;cases f6;exact h m Pd ρ gs w sl t _ _ ad ae af (.cons (o:=⟨_,tm,_⟩) f2 O) h0
theorem gp.code{c:Code}{Q:Exit->Act->World->Prop}(ah:jn E.ok c)(hk:k.all mJ=true)(hf:xv E os)(h:∀τ,Ch τ wl->c.wp P Q ⟨tm,[]⟩ (tp wl τ))
  (hn:∀e a w',Q e a w'->a.defers=[]/\∃k',((e=.normal/\k'=k)\/∃id,e=.exit id/\aT id k=some k')/\gp E (⟨fn,a.tmps,k'⟩::os) w' V):gp E (⟨fn,tm,.code c::k⟩::os) wl V:=by
 have hS:lz E ⟨j0 fn tm (.code c::k.map re),[door P],wl⟩ os V:=by
  let Y:LS->Prop:=λS=>S.cs=[door P]/\∃aa k',k'.all mJ=true/\S.fr=j0 fn aa (k'.map re)/\gp E (⟨fn,aa,k'⟩::os) S.w V;refine lz.pW (Stop:=λS=>∃τ,Y (S.on τ)) (λS τ ⟨O,h⟩=>⟨O,h⟩) (λO ad=>?_) λS' ⟨O,hc,aa,k',h1,h2,h3⟩=>?_
  .obtain⟨e,a,w',hq,U⟩:=h O ad (j0 fn #[] []) (k.map re) [door P];obtain⟨hd,k',ai,hW⟩:=hn e a w' hq;obtain⟨ab,an⟩:=a;subst hd
   have ac:Steps P (aV (j0 fn tm (.code c::k.map re)) [door P] (tp wl O)) (aV (j0 fn ab (k'.map re)) [door P] w')/\k'.all mJ=true:=by
    rcases ai with⟨rfl,rfl⟩|⟨id,rfl,he⟩
    .exact⟨U,hk⟩
    .exact⟨U _ (by rw[tv,he]; rfl),exitTo_plain hk he⟩
   obtain⟨⟨n,ac⟩,aj⟩:=ac;exact⟨n,⟨j0 fn ab _,[door P],w'⟩,ac,⟨w'.tape,rfl,ab,k',aj,rfl,hW⟩,by simp⟩
  .exact lz.tape (τ:=O) (lz.TI h1 hf hc h2 h3)
 intro m Pd ρ gs w sl t fr' cs' ae ak al af h0;obtain⟨am,l',e,ht,ag⟩:=af.head;cases e;exact hS m Pd ρ gs w sl t _ _ cs' ae ak al ag (gX.one (fr:=j0 fn tm _) (fr':=j0 fn am _) ⟨rfl,ht,.cons (.code c (by rw[ae.Tq]; exact ah)) (Q0 hk),.nil,.run,.none⟩ rfl (.inl ⟨rfl,vZ hf ag⟩) rfl) h0
end
end
end Go.Proofs.YtocbogeoffeolaaGreatDoor
