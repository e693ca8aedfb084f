import Derived.Test.YtocbogeoffeolaaGreatDoorWidAD
import Derived.Test.YtocbogeoffeolaaGreatDoorWidAF
set_option linter.all false
set_option maxHeartbeats 8000000
set_option maxRecDepth 1000000
open Go renaming cell_later->a4,yielded->a5,rounds_succ->a6,execOp->a7,FuncId->a8,Calls->a9,wp_loop_rounds->aA,ready_mono->aB,TypeId->aC,stepG->aD,getD_set_ne->aE,wanted_put->aF,execOp_put->aG,step_lone_go->aH,exitTo->aI,bodyPost_ret->aJ,seen->aK,results->aL,lone->aM,callDeferred->aN
open Go.Region renaming wanted->aO,ready->aP,binds->aQ,noSelect_spec->aR,free_spec->aS,noSelect->aT,free->aU,schedule->aV
open Array renaming replicate->aW,getElem?_eq_none->aX,getElem?_eq_some_iff->aY,getD_eq_getD_getElem?->aZ,getElem?_append_left->ba,setIfInBounds_comm->bc,mem_toList_iff->bd,ext_getElem?->be,empty_append->bf
open Go.World renaming size_alloc->bg,cell?_alloc_at->bh,alloc_eq->bi,alloc->bj
open Go.stepG renaming apply->bk,exec->bl,oper->bm
open Bool renaming false_eq_true->bn,and_eq_true->bo,true_or->bp
open List renaming not_mem_nil->bq,mem_cons->br,all_cons->bs,all_eq_true->bt,mem_filter->bu,mem_map->bv,range->bw
open Go.Region.linearise renaming go->bx
open Nat renaming le_refl->bz,lt_or_ge->b3,zero_le->b4
open Go.RowKit.Below renaming refl->b5,heap_alloc->b6,trans->b7,size->b8
open Go.Frame renaming enter->b9,finish_at->b',finish->bA,oper?->bB,eval->bC
open Go.GStep renaming after->bD
open Option renaming getD_some->bE,bind_some->bF,map_some->bG
open Go.Instr renaming loadAt->bH
open Go renaming undef->bI
namespace Go.Proofs.YtocbogeoffeolaaGreatDoor
open Go.Proofs.Tryz
section
open Go.RowKit
variable {K:(World->Prop)->Act->Prop} {a:Act} {listed:Array Bool} {fuel i id:Nat} {o oi:Oper} {v:Value} {b c w:World} {C:World->Prop}
def eU(y O:World):Prop:=Below y.heap.size y O
theorem eU.refl(y:World):eU y y:=b5 ..
theorem eU.trans{a:World}(h:eU a b)(O:eU b c):eU a c:=b7 h (Below.mono O (b8 h))
theorem eU.alloc(y:World)(o:Obj):eU y (y.alloc o):=(b5 ..).alloc (bz _) o
def D.eU(y O:World):Prop:=Below y.heap.size y O/\y.drawn<=O.drawn
theorem D.eU.refl(y:World):D.eU y y:=⟨b5 ..,bz _⟩
theorem D.eU.trans{a:World}(h:D.eU a b)(O:D.eU b c):D.eU a c:=⟨b7 h.1 (Below.mono O.1 (b8 h.1)),Nat.le_trans h.2 O.2⟩
theorem D.eU.alloc(y:World)(o:Obj):D.eU y (y.alloc o):=⟨(b5 ..).alloc (bz _) o,bz _⟩
def gD(R:World->World->Prop)(C:World->Prop):Prop:=∀y O,C y->R y O->C O
theorem kw(w:World):gD eU (eU w):=λ_ _ h O=>h.trans O
theorem D.kw(w:World):gD D.eU (D.eU w):=λ_ _ h O=>h.trans O
theorem gD.and{R:World->World->Prop}{D:World->Prop}(h:gD R C)(Y:gD R D):gD R (λy=>C y/\D y):=λy O U W=>⟨h y O U.1 W,Y y O U.2 W⟩
section
variable {R:World->World->Prop} {P:Program} {ops:Array Oper} {md:Region.Mode} {Q:Exit->Act->World->Prop}
def iM(P:Program)(w:World)(B:Value->World->Prop):Result Go.Next->Prop
 |.ok (.value u) w'=>B u w'
 |.ok .skip w'=>B bI w'
 |.ok (.enter f args) w'=>w'=w/\a9 P f args w (λe O=>∃v,e=.returned v/\B v O)
 |_=>False
def gh(P:Program)(o:Oper)(a:Act)(w:World)(B:Value->World->Prop):Prop:=iM P w B ((a7 a.eval o).run P w)
theorem iM.mono{B O:Value->World->Prop}(h:∀v w,B v w->O v w):∀{r:Result Go.Next},iM P w B r->iM P w O r:=by
 intro r hh
 cases r with
 |ok n w'=>
  cases n<;>simp only[iM]at hh⊢
  case value u=>exact h _ _ hh
  case skip=>exact h _ _ hh
  case enter f args=>exact⟨hh.1,hh.2.mono λe w'' ⟨v,he,hb⟩=>⟨v,he,h _ _ hb⟩⟩
 |halt x w'=>simp only[iM]at hh
def JN(R:World->World->Prop)(P:Program)(ops:Array Oper)(i:Nat)(C:World->Prop)(K:(World->Prop)->Act->Prop)(a:Act):Prop:=
 match ops[i]? with
 |none=>K C a
 |some o=>if aO o (a5 ops a.tmps)=true then
   ∃(X:Type)(O:X->World->Prop)(U:X->Value),(∀x,gD R (O x))/\(∀x y,O x y->C y)/\(∀y,C y->gh P o a y (λv W=>R y W/\∃x,v=U x/\O x W))/\∀x,K (O x) (a.put o.dst (U x))
  else K C (a.put o.dst bI)
theorem Px{K':(World->Prop)->Act->Prop}(h:∀C a,K C a->K' C a)(O:JN R P ops i C K a):JN R P ops i C K' a:=by
 unfold JN at *;split
 .rename_i U; simp only[U]at O; exact h _ _ O
 .rename_i o U;simp only[U]at O;split
  .rename_i W;simp only[W,if_true]at O;obtain⟨X,Y,vx,h1,h2,h3,h4⟩:=O;exact⟨X,Y,vx,h1,h2,h3,λx=>h _ _ (h4 x)⟩
  .rename_i W; simp only[W]at O; exact h _ _ O
def WX(R:World->World->Prop)(P:Program)(md:Region.Mode)(ops:Array Oper)(Q:Exit->Act->World->Prop):Nat->Array Bool->(World->Prop)->Act->Prop
 |0,listed,C,a=>aP md ops listed=[]/\∀y,C y->Q .normal a y
 |fuel+1,listed,C,a=>
  (aP md ops listed=[]->∀y,C y->Q .normal a y)/\
  ∀i∈aP md ops listed,JN R P ops i C (λO U=>WX R P md ops Q fuel (listed.setIfInBounds i true) O U) a
theorem DN{K':Act->World->Prop}(hC:C w)(h:∀C a w,C w->K C a->K' a w)(hh:JN R P ops i C K a):wpOp P ops Q i K' a w:=by
 unfold JN at hh;unfold wpOp;split
 .rename_i U; simp only[U]at hh; exact h _ _ _ hC hh
 .rename_i o U;simp only[U]at hh;split
  .rename_i W;simp only[W,if_true]at hh;obtain⟨X,Cx,vx,_,_,h3,Y⟩:=hh;have h5:=h3 w hC;refine .inl ?_;unfold gh at h5;unfold Oper.wp;generalize (a7 _ o).run P w=r at *
   cases r with
   |ok n w'=>
    cases n<;>simp only[iM]at h5<;>simp only[Oper.upon]
    case value u=>
     obtain⟨_,x,rfl,O⟩:=h5;exact h _ _ _ O (Y x)
    case skip=>
     obtain⟨_,x,e,O⟩:=h5;rw[e];exact h _ _ _ O (Y x)
    case enter f args=>
     obtain⟨e1,hc⟩:=h5;rw[e1];refine hc.mono λe aa he=>?_;obtain⟨v,rfl,_,x,rfl,O⟩:=he;exact h _ _ _ O (Y x)
   |halt x w'=>simp only[iM]at h5
  .rename_i W; simp only[W]at hh; exact h _ _ _ hC hh
theorem wC:∀(fuel:Nat)(listed:Array Bool)(C:World->Prop)(a:Act)(w:World),C w->WX R P md ops Q fuel listed C a->wpAny P md ops Q fuel listed a w
 |0,_,_,_,w,O,h=>⟨h.1,h.2 w O⟩
 |fuel+1,_,_,_,w,O,h=>⟨λW=>h.1 W w O,λi hi=>DN O (λY a' w' U h'=>wC fuel _ Y a' w' U h') (h.2 i hi)⟩
def gm(R:World->World->Prop)(P:Program)(ops:Array Oper)(C:World->Prop)(o:Oper)(v:Value)(a:Act):Prop:=
 (aO o (a5 ops a.tmps)=true/\∀y,C y->gh P o a y (λu O=>R y O/\u=v))\/
 (aO o (a5 ops a.tmps)=false/\v=bI)
theorem gm.sub{O:World->Prop}(h:gm R P ops C o v a)(U:∀y,O y->C y):gm R P ops O o v a:=by
 rcases h with⟨W,Y⟩|h
 .exact .inl ⟨W,λy hy=>Y y (U y hy)⟩
 .exact .inr h
theorem gm.of_same{O:Act}(U:gm R P ops C o v a)(W:a7 O.eval o=a7 a.eval o)
  (Y:aO o (a5 ops O.tmps)=aO o (a5 ops a.tmps)):gm R P ops C o v O:=by
 unfold gm gh at *;rw[W,Y];exact U
theorem gm.U5(hi:ops[i]?=some o)(hC:gD R C)(O:gm R P ops C o v a)(h:K C (a.put o.dst v)):JN R P ops i C K a:=by
 unfold JN;simp only[hi];rcases O with⟨U,Y⟩|⟨U,rfl⟩
 .simp only[U,if_true];exact⟨Unit,λ_=>C,λ_=>v,λ_=>hC,λ_ _ h=>h,λy O=>(Y y O).mono λu y' ⟨W,h2⟩=>⟨W,(),h2,hC y y' O W⟩,λ_=>h⟩
 .simp only[U,bn,if_false]; exact h
theorem Q2{j:Nat}{O:Oper}(hj:ops[j]?=some O)(W:oi.apart ops O=true)
  (Y:∀cs b,oi.op≠.select cs b) (aa:∀cs b,O.op≠.select cs b) {K:(World->Prop)->Act->Prop} {a:Act} (hC:gD R C)
  (U:gm R P ops C oi v a) (h:JN R P ops j C K (a.put oi.dst v)) :
  JN R P ops j C (λC' a'=>gD R C'/\gm R P ops C' oi v a'/\K C' (a'.put oi.dst v)) a:=by
 obtain⟨h1,h2,h3⟩:=Oper.apart_spec W
 have kZ:∀(C:World->Prop)(a:Act),gm R P ops C oi v a->∀u,gm R P ops C oi v _:=λC a U u=>
  U.of_same (aG oi Y a _ u h3) (aF oi a _ u h3)
 unfold JN at *;simp only[hj]at *;rw[aF O a _ v h1]at h;split
 .rename_i hw;simp only[hw,if_true]at h;obtain⟨X,Cx,vx,q1,q2,q3,q4⟩:=h;refine⟨X,Cx,vx,q1,q2,λy ab=>?_,λx=>⟨q1 x,kZ _ _ (U.sub (q2 x)) _,by rw[<-Act.put_comm a v _ h2]; exact q4 x⟩⟩;have:=q3 y ab;unfold gh at *;rwa [aG O aa a _ v h1]at this
 .rename_i hw;simp only[hw]at h;exact⟨hC,kZ _ a U _,by rw[<-Act.put_comm a v bI h2]; exact h⟩
theorem Ga(hi:ops[i]?=some oi)(Y:∀(j:Nat)(o:Oper)cs b,ops[j]?=some o->o.op≠.select cs b) :
  ∀(fuel:Nat)(listed:Array Bool)(C:World->Prop)(a:Act),
   (∀j oj,ops[j]?=some oj->j≠i->listed.getD j true=false->(∀e∈oj.after,aQ md e=true->e.on≠i)->oi.apart ops oj=true)->
   i∈aP md ops listed->gD R C->gm R P ops C oi v a->
   WX R P md ops Q fuel (listed.setIfInBounds i true) C (a.put oi.dst v)->WX R P md ops Q (fuel+1) listed C a:=by
 intro fuel
 induction fuel with
 |zero=>
  intro listed C a _ hr hC hy H;refine⟨λh=>(by rw[h]at hr; cases hr),λj hj=>?_⟩;by_cases O:j=i
  .subst O; exact hy.U5 hi hC H
  .have:=aB hj O;rw[H.1]at this;cases this
 |succ fuel ih=>
  intro listed C a U hr hC hy H;refine⟨λh=>(by rw[h]at hr; cases hr),λj hj=>?_⟩;by_cases O:j=i
  .subst O; exact hy.U5 hi hC H
  .have h1:=H.2 j (aB hj O);obtain⟨aa,oj,ab,fv⟩:=_root_.Go.mem_ready.1 hj
   have ac:∀e∈oj.after,aQ md e=true->e.on≠i:=λe he hb af=>by
    have h1:=fv e he hb;have h0:=(_root_.Go.mem_ready.1 hr).1;rw[af]at h1;rcases b3 i listed.size with h'|h'
    .simp[h']at h0 h1; rw[h0]at h1; cases h1
    .simp[aX h']at h1
   have h2:=Q2 ab (U j oj ab O aa ac) (λcs b=>Y i oi cs b hi) (λcs b=>Y j oj cs b ab) hC hy h1
   have W:∀k ok,ops[k]?=some ok->k≠i->(listed.setIfInBounds j true).getD k true=false->
     (∀e∈ok.after,aQ md e=true->e.on≠i)->oi.apart ops ok=true:=λk ok hk ag ad ah=>by
    refine U k ok hk ag ?_ ah;by_cases ae:j=k
    .subst ae; exact aa
    .rw[aE true ae]at ad; exact ad
   refine Px (λC' a' h3=>ih _ C' a' W (aB hr (Ne.symm O)) h3.1 h3.2.1 ?_) h2;rw[bc _ _ O];exact h3.2.2
theorem dI(i:Nat)(v:Value)(O:∀y,C y->gh P oi a y (λu U=>R y U/\u=v))
  (h:WX R P md ops Q fuel (listed.setIfInBounds i true) C (a.put oi.dst v)) (hi:ops[i]?=some oi:=by rfl)
  (W:aT ops=true:=by kernel_rfl) (Y:aU md ops listed i=true:=by kernel_rfl) (hr:(aP md ops listed).contains i=true:=by kernel_rfl) (hC:gD R C:=by first|exact kw _|exact D.kw _)
  (hw:aO oi (a5 ops a.tmps)=true:=by rfl):WX R P md ops Q (fuel+1) listed C a:=
 Ga hi (aR W) fuel listed C a (aS hi Y) (by simpa using hr) hC (.inl ⟨hw,O⟩) h
theorem S6{rs:List Nat}(U:aP md ops listed=rs)(O:rs≠[])
  (h:∀i∈rs,JN R P ops i C (λW Y=>WX R P md ops Q fuel (listed.setIfInBounds i true) W Y) a):WX R P md ops Q (fuel+1) listed C a:=
 ⟨λh0=>absurd (U▸h0) O,U▸h⟩
theorem xq(O:aP md ops listed=[])(h:∀y,C y->Q .normal a y):∀fuel,WX R P md ops Q fuel listed C a
 |0=>⟨O,h⟩
 |_+1=>⟨λ_=>h,by rw[O]; simp⟩
theorem Q'(W:Nat->Value)(D:Nat->World->Prop)(hi:ops[i]?=some oi)(hC:gD R C)(hD:∀g,gD R (D g))
  (hw:aO oi (a5 ops a.tmps)=true) (hy:∀y,C y->gh P oi a y (λv U=>R y U/\v=W y.heap.size/\D y.heap.size U))
  (h:∀g,K (λy=>C y/\D g y) (a.put oi.dst (W g))):JN R P ops i C K a:=by
 unfold JN;simp only[hi,hw,if_true];exact⟨Nat,λg y=>C y/\D g y,W,λg=>hC.and (hD g),λ_ _ h=>h.1,λy O=>(hy y O).mono λv U ⟨Y,h2,h3⟩=>⟨Y,y.heap.size,h2,hC y U O Y,h3⟩,h⟩
theorem vu(O:R w {w with drawn:=w.drawn+1})(hm:P.follows .mixedOrders=true)
  (h:WX R P .any ops Q ops.size (aW ops.size false) (R w) a):(Code.region id ops true).wp P Q a w:=
 wp_region_any hm (wC _ _ _ _ _ O h)
theorem lV(hm:P.follows .mixedOrders=true)(h:WX eU P .any ops Q ops.size (aW ops.size false) (eU w) a):(Code.region id ops true).wp P Q a w:=
 vu ⟨rfl,rfl,rfl,bz _,λ_ _=>rfl⟩ hm h
theorem D.lV(hm:P.follows .mixedOrders=true)(h:WX D.eU P .any ops Q ops.size (aW ops.size false) (D.eU w) a):(Code.region id ops true).wp P Q a w:=
 vu ⟨⟨rfl,rfl,rfl,bz _,λ_ _=>rfl⟩,Nat.le_succ _⟩ hm h
theorem Ep(U:∀y O,R y O->Below y.heap.size y O)(a:Addr)(v:Value):gD R (λy=>y.cell? a=some v):=λy O h W=>by
 have hb:=Below.block (U _ _ W) _ (World.block_lt_of_cell? y a h);show O.cell? a=some v;rw[World.cell?_of_block hb]; exact h
theorem gr(a:Addr)(v:Value):gD eU (λy=>y.cell? a=some v):=Ep (λ_ _ h=>h) a v
theorem D.gr(a:Addr)(v:Value):gD D.eU (λy=>y.cell? a=some v):=Ep (λ_ _ h=>h.1) a v
end
end
section
open Go.RowKit
variable {K:(World->Prop)->Act->Prop} {a:Act} {listed:Array Bool} {i:Nat} {oi:Oper} {v:Value} {C:World->Prop}
def mn(C:World->Prop):Prop:=∀y τ,C y->C (tp y τ)
def kY(w:World):World->Prop:=λy=>∃τ,eU (tp w τ) y
theorem kY.Sr(w:World):gD eU (kY w):=λ_ _ ⟨τ,h⟩ O=>⟨τ,h.trans O⟩
theorem Sa{w y:World}(h:eU w y)(τ:Nat->Question->Nat):eU (tp w τ) (tp y τ):=by
 obtain⟨O,h2,U,W,Y⟩:=h;exact⟨O,rfl,U,W,Y⟩
theorem kY.free(w:World):mn (kY w):=λy τ ⟨_,h⟩=>⟨τ,Sa h τ⟩
theorem kY.at(w:World)(d:Nat):kY w (w.at d):=⟨w.tape,⟨rfl,rfl,rfl,bz _,λ_ _=>rfl⟩⟩
section
variable {P:Program} {ops:Array Oper} {md:Region.Mode} {last:Nat} {tl:List Nat->Prop} {Sd:Act->World->Prop}
def A6(P:Program)(ops:Array Oper)(i:Nat)(C:World->Prop)(K:(World->Prop)->Act->Prop)(a:Act):Prop:=
 match ops[i]? with
 |none=>False
 |some o=>if aO o (a5 ops a.tmps)=true then
   ∃(X:Type)(O:X->World->Prop)(U:X->Value),(∀x,gD eU (O x))/\(∀x,mn (O x))/\(∀x y,O x y->C y)/\(∀y,C y->gh P o a y (λv W=>eU y W/\∃x,v=U x/\O x W))/\∀x,K (O x) (a.put o.dst (U x))
  else K C (a.put o.dst bI)
theorem Ll{K':(World->Prop)->Act->Prop}(h:∀C a,K C a->K' C a)(O:A6 P ops i C K a):A6 P ops i C K' a:=by
 unfold A6 at *;split
 .rename_i U; simp only[U]at O
 .rename_i o U;simp only[U]at O;split
  .rename_i W;simp only[W,if_true]at O;obtain⟨X,Y,vx,h1,h2,h3,h4,h5⟩:=O;exact⟨X,Y,vx,h1,h2,h3,h4,λx=>h _ _ (h5 x)⟩
  .rename_i W; simp only[W]at O; exact h _ _ O
def WS(P:Program)(md:Region.Mode)(ops:Array Oper)(last:Nat)(tl:List Nat->Prop)(Sd:Act->World->Prop):Nat->Array Bool->(World->Prop)->Act->Prop
 |0,_,_,_=>False
 |fuel+1,listed,C,a=>aP md ops listed≠[]/\∀i∈aP md ops listed,if i=last then(∀t,tl (bx md ops fuel t (listed.setIfInBounds last true) []))/\∀y,C y->Sd a y else A6 P ops i C (λO U=>WS P md ops last tl Sd fuel (listed.setIfInBounds i true) O U) a
structure Ir(P:Program)(ops:Array Oper)(last:Nat)(W:List Nat->Act->World->Prop):Prop where
 op:∀(i:Nat)rest a w o,i≠last->ops[i]?=some o->aO o (a5 ops a.tmps)=true->(∀τ,gh P o a (tp w τ) λv y=>eU (tp w τ) y/\W rest (a.put o.dst v) y)->W (i::rest) a w
 pass:∀(i:Nat)rest a w o,i≠last->ops[i]?=some o->aO o (a5 ops a.tmps)=false->W rest (a.put o.dst bI) w->W (i::rest) a w
theorem WS.sound{W:List Nat->Act->World->Prop}(U:Ir P ops last W)(O:∀a y l,tl l->Sd a y->W (last::l) a y):∀(fuel t:Nat)(listed:Array Bool)(C:World->Prop)(a:Act)(w:World),mn C->C w->WS P md ops last tl Sd fuel listed C a->W (bx md ops fuel t listed []) a w
 |0,_,_,_,_,_,_,_,h=>h.elim
 |fuel+1,t,listed,C,a,w,hT,hC,h=>by
  obtain⟨h0,h1⟩:=h
  change W (match (aP md ops listed)[t % (aP md ops listed).length]? with
   |some i=>bx md ops fuel ..
   |none=>[].reverse) a w
  cases hi:(aP md ops listed)[t % (aP md ops listed).length]? with
  |none=>
   exfalso
   cases hr:aP md ops listed with
   |nil=>exact h0 hr
   |cons x xs=>
    rw[hr]at hi;have aa:t % (x::xs).length<(x::xs).length:=Nat.mod_lt _ (by simp);simp at hi;simp at aa;omega
  |some i=>
   simp only[];rw[linearise_go_acc];have h2:=h1 i (List.mem_of_getElem? hi);by_cases e:i=last
   .subst e;simp only[if_true]at h2;exact O a w _ (h2.1 _) (h2.2 w hC)
   .simp only[e,if_false]at h2;unfold A6 at h2
    cases Y:ops[i]? with
    |none=>simp only[Y]at h2
    |some o=>
     simp only[Y]at h2;by_cases hw:aO o (a5 ops a.tmps)=true
     .simp only[hw,if_true]at h2;obtain⟨X,Cx,vx,q1,q2,q3,q4,q5⟩:=h2;refine U.op i _ a w o e Y hw λτ=>(q4 _ (hT w τ hC)).mono λv y ⟨he,x,ev,hx⟩=>⟨he,?_⟩;rw[ev];exact WS.sound U O fuel _ _ _ _ y (q2 x) hx (q5 x)
     .simp only[hw,bn,if_false]at h2;exact U.pass i _ a w o e Y (by simpa using hw) (WS.sound U O fuel _ _ C _ w hT hC h2)
inductive SP(md:Region.Mode)(ops:Array Oper)(last:Nat):Nat->Prop
 |base {e o}:ops[last]?=some o->e∈o.after->aQ md e=true->SP md ops last e.on
 |step {j:Nat} {e o}:SP md ops last j->ops[j]?=some o->e∈o.after->aQ md e=true->SP md ops last e.on
def Down(md:Region.Mode)(ops:Array Oper)(listed:Array Bool):Prop:=∀(j:Nat)o,ops[j]?=some o->listed.getD j false=true->∀e∈o.after,aQ md e=true->listed.getD e.on false=true
theorem Down.UP(h:Down md ops listed)(Y:last∈aP md ops listed)(hi:SP md ops last i):listed.getD i false=true:=by
 induction hi with
 |base U W hb=>
  obtain⟨_,o',O,fv⟩:=_root_.Go.mem_ready.1 Y;rw[U]at O;cases O;exact fv _ W hb
 |step _ U W hb ih=>exact h _ _ U ih _ W hb
theorem Down.set(h:Down md ops listed)(hr:i∈aP md ops listed):Down md ops (listed.setIfInBounds i true):=by
 have up:∀k,listed.getD k false=true->(listed.setIfInBounds i true).getD k false=true:=by
  intro k W;by_cases e:i=k
  .subst e
   have:i<listed.size:=by
    apply Classical.byContradiction;intro hn;simp[aX (Nat.le_of_not_lt hn)]at W
   simp[this]
  .rw[aE false e]; exact W
 intro j o Y hj e he hb;by_cases O:i=j
 .subst O;obtain⟨_,o',U,fv⟩:=_root_.Go.mem_ready.1 hr;rw[Y]at U;cases U;exact up _ (fv e he hb)
 .rw[aE false O]at hj;exact up _ (h j o Y hj e he hb)
theorem NZ{j:Nat}{O:Oper}(hj:ops[j]?=some O)(Y:oi.apart ops O=true)
  (aa:∀cs b,oi.op≠.select cs b) (ab:∀cs b,O.op≠.select cs b) {K:(World->Prop)->Act->Prop} {a:Act} (hC:gD eU C) (hT:mn C)
  (U:gm eU P ops C oi v a) (h:A6 P ops j C K (a.put oi.dst v)) :
  A6 P ops j C (λW a'=>(gD eU W/\mn W)/\gm eU P ops W oi v a'/\K W (a'.put oi.dst v)) a:=by
 obtain⟨h1,h2,h3⟩:=Oper.apart_spec Y
 have kZ:∀(C:World->Prop)(a:Act),gm eU P ops C oi v a->∀u,gm eU P ops C oi v _:=λC a U u=>
  U.of_same (aG oi aa a _ u h3) (aF oi a _ u h3)
 unfold A6 at *;simp only[hj]at *;rw[aF O a _ v h1]at h;split
 .rename_i hw;simp only[hw,if_true]at h;obtain⟨X,Cx,vx,q1,qt,q2,q3,q4⟩:=h;refine⟨X,Cx,vx,q1,qt,q2,λy ac=>?_,λx=>⟨⟨q1 x,qt x⟩,kZ _ _ (U.sub (q2 x)) _,by rw[<-Act.put_comm a v _ h2]; exact q4 x⟩⟩;have:=q3 y ac;unfold gh at *;rwa [aG O ab a _ v h1]at this
 .rename_i hw;simp only[hw]at h;exact⟨⟨hC,hT⟩,kZ _ a U _,by rw[<-Act.put_comm a v bI h2]; exact h⟩
theorem gm.Ul{o:Oper}(hi:ops[i]?=some o)(hC:gD eU C)(Y:mn C)(O:gm eU P ops C o v a)(h:K C (a.put o.dst v)):A6 P ops i C K a:=by
 unfold A6;simp only[hi];rcases O with⟨U,hv⟩|⟨U,rfl⟩
 .simp only[U,if_true];exact⟨Unit,λ_=>C,λ_=>v,λ_=>hC,λ_=>Y,λ_ _ h=>h,λy O=>(hv y O).mono λu y' ⟨W,h2⟩=>⟨W,(),h2,hC y y' O W⟩,λ_=>h⟩
 .simp only[U,bn,if_false]; exact h
theorem Nw(hi:ops[i]?=some oi)(ae:SP md ops last i)(al:i≠last)(ab:∀(j:Nat)(o:Oper)cs b,ops[j]?=some o->o.op≠.select cs b) :
  ∀(fuel:Nat)(listed:Array Bool)(C:World->Prop)(a:Act),Down md ops listed->
   (∀j oj,ops[j]?=some oj->j≠i->listed.getD j true=false->(∀e∈oj.after,aQ md e=true->e.on≠i)->oi.apart ops oj=true\/j=last)->
   i∈aP md ops listed->gD eU C->mn C->gm eU P ops C oi v a->
   WS P md ops last tl Sd fuel (listed.setIfInBounds i true) C (a.put oi.dst v)->WS P md ops last tl Sd (fuel+1) listed C a:=by
 intro fuel
 induction fuel with
 |zero=>intro listed C a _ _ _ _ _ _ H; exact H.elim
 |succ fuel ih=>
  intro listed C a hD U hr hC hT hy H;refine⟨λh=>(by rw[h]at hr; cases hr),λj hj=>?_⟩;have O:=(_root_.Go.mem_ready.1 hr).1;by_cases Y:j=last
  .subst Y;have:=hD.UP hj ae;rcases b3 i listed.size with h'|h'
   .simp[h']at this O; rw[O]at this; cases this
   .simp[aX h']at this
  .simp only[Y,if_false];by_cases W:j=i
   .subst W; exact hy.Ul hi hC hT H
   .have h1:=H.2 j (aB hj W);simp only[Y,if_false]at h1;obtain⟨ac,oj,ad,fv⟩:=_root_.Go.mem_ready.1 hj
    have af:∀e∈oj.after,aQ md e=true->e.on≠i:=λe he hb ai=>by
     have h1:=fv e he hb;rw[ai]at h1;rcases b3 i listed.size with h'|h'
     .simp[h']at O h1; rw[O]at h1; cases h1
     .simp[aX h']at h1
    have h2:=NZ ad ((U j oj ad W ac af).resolve_right Y) (λcs b=>ab i oi cs b hi) (λcs b=>ab j oj cs b ad) hC hT hy h1
    have aa:∀k ok,ops[k]?=some ok->k≠i->(listed.setIfInBounds j true).getD k true=false->
      (∀e∈ok.after,aQ md e=true->e.on≠i)->oi.apart ops ok=true\/k=last:=λk ok hk aj ag ak=>by
     refine U k ok hk aj ?_ ak;by_cases ah:j=k
     .subst ah; exact ac
     .rw[aE true ah]at ag; exact ag
    refine Ll (λC' a' h3=>ih _ C' a' (hD.set hj) aa (aB hr (Ne.symm W)) h3.1.1 h3.1.2 h3.2.1 ?_) h2;rw[bc _ _ W];exact h3.2.2
end
end
section
open Go.RowKit
open Go.Conc
variable {listed:Array Bool} {fuel:Nat} {o:Oper} {C:World->Prop}
section
variable {P:Program} {ops:Array Oper} {md:Region.Mode} {last:Nat} {tl:List Nat->Prop} {Sd:Act->World->Prop}
def uD(md:Region.Mode)(ops:Array Oper)(j:Nat):List Nat:=match ops[j]? with
 |some o=>(o.after.toList.filter λe=>aQ md e).map (·.on)
 |none=>[]
def P7(md:Region.Mode)(ops:Array Oper)(last:Nat):Nat->List Nat
 |0=>uD md ops last
 |n+1=>P7 md ops last n++(P7 md ops last n).flatMap (uD md ops)
theorem Ed{j i:Nat}(h:i∈uD md ops j):∃o e,ops[j]?=some o/\e∈o.after/\aQ md e=true/\e.on=i:=by
 unfold uD at h
 cases O:ops[j]? with
 |none=>rw[O]at h; cases h
 |some o=>
  rw[O]at h;simp only[bv,bu,bd]at h;obtain⟨e,⟨U,W⟩,Y⟩:=h;exact⟨o,e,rfl,U,W,Y⟩
theorem G9:∀(n:Nat){i:Nat},i∈P7 md ops last n->SP md ops last i
 |0,i,h=>by
  obtain⟨o,e,O,U,W,rfl⟩:=Ed h
  exact .base O U W
 |n+1,i,h=>by
  rcases List.mem_append.1 h with h|h
  .exact G9 n h
  .obtain⟨j,Y,hi⟩:=List.mem_flatMap.1 h;obtain⟨o,e,O,U,W,rfl⟩:=Ed hi;exact .step (G9 n Y) O U W
def O9(md:Region.Mode)(ops:Array Oper)(listed:Array Bool):Bool:=(bw ops.size).all λj=>!listed.getD j false || (uD md ops j).all λi=>listed.getD i false
theorem Qg(h:O9 md ops listed=true):Down md ops listed:=by
 intro j o O U e W hb;unfold O9 at h;rw[bt]at h;have:=h j (by simpa using(aY.1 O).1);rw[U]at this;simp only[Bool.not_true,Bool.false_or,bt]at this;refine this _ ?_;unfold uD;rw[O];simp only[bv,bu,bd];exact⟨e,⟨W,hb⟩,rfl⟩
def Rn(md:Region.Mode)(ops:Array Oper)(last:Nat)(listed:Array Bool)(i:Nat):Bool:=aT ops&&aU md ops listed i&&(aP md ops listed).contains i&&(P7 md ops last ops.size).contains i&&i != last&&O9 md ops listed
theorem dB(i:Nat)(v:Value){oi:Oper}{a:Act}(O:∀y,C y->gh P oi a y (λu U=>eU y U/\u=v))
  (h:WS P md ops last tl Sd fuel (listed.setIfInBounds i true) C (a.put oi.dst v)) (hi:ops[i]?=some oi:=by rfl) (hb:Rn md ops last listed i=true:=by kernel_rfl) (hC:gD eU C:=by exact kY.Sr _) (W:mn C:=by exact kY.free _)
  (Y:aO oi (a5 ops a.tmps)=true:=by rfl):WS P md ops last tl Sd (fuel+1) listed C a:=by
 simp only[Rn,bo]at hb;obtain⟨⟨⟨⟨⟨h1,h2⟩,h3⟩,h4⟩,h5⟩,h6⟩:=hb;exact Nw hi (G9 _ (by simpa using h4)) (by simpa using h5) (aR h1) fuel listed C a (Qg h6) (λj oj a b c d=>.inl (aS hi h2 j oj a b c d)) (by simpa using h3) hC W (.inl ⟨Y,O⟩) h
theorem CU(U:aP md ops listed=[]):∀(fuel t:Nat),bx md ops fuel t listed []=[]
 |0,_=>rfl
 |f+1,t=>by
  simp only[bx]
  split
  .rename_i q W
   have O:(aP md ops listed)[t % (aP md ops listed).length]?=some q:=W
   rw[U]at O;cases O
  .rfl
theorem mF{a:Act}(U:aP md ops listed=[last])(W:∀t,tl (bx md ops fuel t (listed.setIfInBounds last true) []))(h:∀y,C y->Sd a y):WS P md ops last tl Sd (fuel+1) listed C a:=by
 refine⟨by rw[U]; simp,λj O=>?_⟩;rw[U]at O;simp only[br,bq,or_false]at O;subst O;simp only[if_true];exact⟨W,h⟩
end
section
variable {P:Program} {ops:Array Oper} {Q:Exit->Act->World->Prop}
def nh(P:Program)(ops:Array Oper)(Q:Exit->Act->World->Prop)(l:List Nat)(a:Act)(w:World):Prop:=∀b k cs,∃e O w',Q e O w'/\Arrives P (aM (b.at a (.inRegion ops l::k)) cs w) b k cs e O w'
theorem kO{i:Nat}{rest:List Nat}{a:Act}{w:World}(ho:ops[i]?=some o)(hw:aO o (a5 ops a.tmps)=true)(hj:gh P o a w λv y=>nh P ops Q rest (a.put o.dst v) y):nh P ops Q (i::rest) a w:=by
  intro b k cs;have hg:=stepG_op (P:=P) (b:=b) (k:=k) (cs:=cs) (w:=w) (rest:=rest) ho hw
  have U:∀v,(b.at a (.inRegion ops (i::rest)::k)).finish v=b.at (a.put o.dst v) (.inRegion ops rest::k):=by
   intro v; rw[b',ho]; rfl
  unfold gh at hj
  cases hr:(a7 _ o).run P w with
  |halt x w'=>rw[hr]at hj; exact hj.elim
  |ok n w'=>
   rw[hr]at hj;cases n<;>simp only[iM]at hj
   case value v=>
    obtain⟨e,a',W,hq,O⟩:=hj b k cs;refine⟨e,a',W,hq,.of_steps (.one (aH ?_)) O⟩;rw[hg,<-U]; simp[bk,hr]
   case skip=>
    obtain⟨e,a',W,hq,O⟩:=hj b k cs;refine⟨e,a',W,hq,.of_steps (.one (aH ?_)) O⟩;rw[hg,<-U]; simp[bk,hr]
   case enter f args=>
    obtain⟨rfl,hc⟩:=hj;obtain⟨e,w2,fr,⟨v,rfl,hR⟩,ab,_,Y⟩:=hc _;obtain⟨e,a',W,hq,O⟩:=hR b k cs
    have aa:step P _=.next (aM (b9 P f args .normal) (b.at a (.inRegion ops (i::rest)::k)::cs) w'):=
     aH (by rw[hg]; simp[bk,hr,Frame.at])
    refine⟨e,a',W,hq,.of_steps (.head aa (Steps.trans ab (.one ?_))) O⟩;rw[<-U]; exact step_leave_returned Y
theorem Ib{i:Nat}{rest:List Nat}{a:Act}{w:World}(U:ops[i]?=some o)(Y:aO o (a5 ops a.tmps)=false)(h:nh P ops Q rest (a.put o.dst bI) w):nh P ops Q (i::rest) a w:=by
  intro b k cs;obtain⟨e,a',w',hq,O⟩:=h b k cs;have W:=step_op_skip (P:=P) (b:=b) (a:=a) (k:=k) (cs:=cs) (w:=w) (ops:=ops) (i:=i) (rest:=rest) (by simp[U,Y]);simp only[U,bF]at W;exact⟨e,a',w',hq,.of_steps (.one W) O⟩
theorem II{last:Nat}{τ₀:Nat->Question->Nat}:Ir P ops last λl a w=>w.tape=τ₀->nh P ops Q l a w where
 op i rest a w o _ ho hw hj ht:=kO ho hw ((show gh P o a w _ from hj w.tape).mono λ_ _ h=>h.2 (h.1.tape.trans ht))
 pass i rest a w o _ ho hw h ht:=Ib ho hw (h ht)
theorem zn{i:Nat}{a:Act}{w:World}{x y:Operand}{r cap s rc:Nat}{O:Array Value}{tm:Bool}{v:Value}(ho:ops[i]?=some o)(hg:o.guard=none)(aa:o.op=.send x y)(hd:o.dst=none)(hx:a.eval x=.chan (some r))(hy:a.eval y=v)(hc:w.heap[r]?=some (.chan cap O false s rc tm))(hb:O.size<cap)
  (h:Q .normal a {w with heap:=w.heap.setIfInBounds r (.chan cap (O.push v) false (s+1) rc tm)}):nh P ops Q [i] a w:=by
 intro b k cs;have hw:aO o (a5 ops a.tmps)=true:=by simp[aO,hg]
 have hg:=stepG_op (P:=P) (b:=b) (k:=k) (cs:=cs) (w:=w) (rest:=[]) ho hw
 have W:a7 a.eval o=pure (.comm #[{chan:=.chan (some r),send:=some v,zero:=bI}] true .send):=by
  obtain⟨d,op,ty,ps,af,gd⟩:=o;subst aa;simp only[a7,hx,hy];rfl
 have ab:aD P true (G (b.at a (.inRegion ops [i]::k)) cs) w=.comm (G (b.at a (.inRegion ops [i]::k)) cs) #[⟨.chan (some r),some v,bI⟩] true .send w (aK P b.fn (if(b.kind==CallKind.early)=true then #[]else #[])):=by
  show aD P true {frame:=b.at a _,callers:=cs,status:=.running,dying:=none} w=_;rw[hg,W];rfl
 have U:=(Ef.send (P:=P) ab hc hb).next
 have Y:(b.at a (.inRegion ops [i]::k)).finish bI=b.at a (.inRegion ops []::k):=by
  rw[b',ho];simp[Act.put,hd]
 refine⟨.normal,a,_,h,.head U ?_⟩;show Steps P (aM ((b.at a (.inRegion ops [i]::k)).finish bI) cs _) _;rw[Y];exact .one step_region_end
theorem gX{id last:Nat}{tl:List Nat}{a:Act}{w:World}{Sd:Act->World->Prop}(hm:P.follows .mixedOrders=true)(h:WS P .any ops last (· = tl) Sd ops.size (aW ops.size false) (kY w) a)(U:∀a y,Sd a y->y.tape=w.tape->nh P ops Q (last::tl) a y):(Code.region id ops true).wp P Q a w:=by
 intro b k cs;obtain⟨e,W,w',Y,O⟩:=WS.sound (II (P:=P) (ops:=ops) (Q:=Q) (τ₀:=w.tape)) (λa y l hl hh=>by rw[show l=tl from hl]; exact U a y hh) _ _ _ _ a {w with drawn:=w.drawn+1} (kY.free w) (kY.at w _) h rfl b k cs;refine⟨e,W,w',Y,.of_steps (.one ?_) O⟩;rw[step_region_draw];simp only[aV,hm,bp,if_true];rfl
end
end
section
open Go.RowKit
open Go.Conc
variable {Sd:Act->World->Prop} {ops:Array Oper} {id last:Nat}
section
variable {P:Program} {E:Env P} {fn:a8} {tm:Array Value} {os:List OF} {wl:World} {V:List (Nat×Option (List Value))} {k:List Item}
theorem iO.calls{i:Nat}{rest:List Nat}{o:Oper}{f:a8}{args:Array Value}{R:Ending->World->Prop}(hi:ops[i]?=some o)(hC:∀τ,Ak τ wl->a9 P f args (tp wl τ) R)(hR:∀e w',R e w'->∃v,e=.returned v/\dn E (⟨fn,eI o.dst tm v,.inRegion ops rest::k⟩::os) w' V) :
  iO E ⟨b9 P f args .normal,[door P],wl⟩ (⟨fn,tm,.inRegion ops (i::rest)::k⟩::os) V:=by
 let U:LS->Prop:=λS=>S.cs=[door P]/\∃v,S.fr.leaving P S.w (.returned v)/\R (.returned v) S.w;refine iO.mZ (Stop:=λS=>∃τ,U (S.on τ)) (λS τ ⟨O,h⟩=>⟨O,h⟩) (λO Y=>?_) λS' ⟨O,hc,v,hl,hr⟩=>?_
 .obtain⟨e,w',fr,hr,W,_,aa⟩:=hC O Y _;obtain⟨v,rfl,_⟩:=hR e w' hr;obtain⟨n,hn⟩:=W;exact⟨n,⟨fr,[door P],w'⟩,hn,⟨w'.tape,rfl,v,aa,hr⟩,by simp⟩
 .obtain⟨v',hv,hW⟩:=hR _ _ hr;cases hv;exact iO.tape (τ:=O) (iO.ret hi hc hl hW)
theorem dn.any{i:Nat}{rest:List Nat}{o:Oper}(hi:ops[i]?=some o)(av:aO o (a5 ops tm)=true)(ho:OkOp P E.fu E.gl E.st o.op)
  (af:∀τ,iM P (tp wl τ) (λv y=>dn E (⟨fn,eI o.dst tm v,.inRegion ops rest::k⟩::os) y V) ((a7 (iJ tm) o).run P (tp wl τ))):dn E (⟨fn,tm,.inRegion ops (i::rest)::k⟩::os) wl V:=by
 intro m Pd ρ gs w sl t fr' cs' W aw am ag h0;refine turn (Z:=E.Z) (a:=G fr' cs') (K:=λj=>(ρ j).sum) (N:=gs.size) rfl ?_ ρ gs w sl t aw (λ_=>rfl) h0 rfl;intro ρ' gs' w' ax aa d t' ab hK ah hN;have ai:=ag
 cases ag with
 |@cons _ _ O l ht ay=>
  have hs:=Er W.pj.env W.pj.strict W.pj.ig (gl:=E.gl) (ρ:=iJ tm) (ρ':=iJ O) (λx hx=>J8 ht W.pj.oh x hx) (λc=>⟨rfl,rfl⟩) o (by rw[W.fu]; exact ho);have an:=ab.main.tp (along wl (w'.at d));have ao:=hs.run (tp wl (along wl (w'.at d))) (w'.at d) #[] an (pe wl (w'.at d));have ap:=hs.loc (tp wl (along wl (w'.at d))) (w'.at d) an;have hJ:=af (along wl (w'.at d));have hy:aO o (a5 ops O)=true:=by rw[show a5 ops O=a5 ops tm from funext (lO ops ht)]; exact av
  have aq:=lK (P:=P) (fn:=fn) (k:=k) (rest:=rest) (cs':=cs') (w:=w'.at d) hi hy;have ar:0<gs'.size:=(aY.1 ah).1;have ac:=λv'=>iP fn O ops i rest k v';simp only[hi,bF]at ac
  cases ad:(a7 (iJ tm) o).run P (tp wl (along wl (w'.at d)))with
  |halt x wn=>rw[ad]at hJ; exact hJ.elim
  |ok n wn=>
   rw[ad]at hJ ao;obtain⟨U,n',w₁,es,e1,e2,e3,e4,_,e5,e6⟩:=ao;rw[bf]at e1
   have au:∀e∈aK P fn (if(CallKind.normal==CallKind.early)=true then #[]else es),oA U e:=λe he=>by
    have:=mem_seen he;split at this
    .simp at this
    .exact e6 e this
   have val:∀v v',VR U v v'->dn E (⟨fn,eI o.dst tm v,.inRegion ops rest::k⟩::os) wn V->bk P true (fN fn O (.inRegion ops (i::rest)::k)) cs' none (a7 (iJ O) o) (w'.at d)=.go (G (fN fn (eI o.dst O v') (.inRegion ops rest::k)) cs') w₁ (aK P fn (if(CallKind.normal==CallKind.early)=true then #[]else es))->E.Z.Fin (crowd gs' w' ax) (runT P (crowd gs' (w'.at d) aa) 0) t':=by
    intro v v' hv hW aj;have ak:=runT_crowd_go (P:=P) (sl:=aa) (i:=0) ah (show aD P (0==0) _ (w'.at d)=_ from aq.trans aj);rw[ak];refine E.Z.next _ _ _ _ ?_;exact hW U Pd ρ' _ _ aa _ _ _ (W.le e2 e5) (ab.wN (gs':=(gs'.map (woken P _ _ w₁)).setIfInBounds 0 (G (fN fn (eI o.dst O v') (.inRegion ops rest::k)) cs')) e2 e5 au e4 (by simp) (gE _)) (am.le e2 hK) (.cons (o:=⟨fn,eI o.dst tm v,.inRegion ops rest::k⟩) ((ht.mono e2).eI o.dst hv) (ay.mono e2)) (by simp[ar])
   cases n<;>simp only[iM]at hJ
   case value v=>
    cases e3 with
    |@value _ v' hv=>
     refine val v v' hv hJ ?_;unfold bk;simp only[if_true,e1,ac];simp[bD,G,fN]
   case skip=>
    cases e3 with
    |skip=>
     refine val bI bI (.undef U) hJ ?_;unfold bk;simp only[if_true,e1,ac];simp[bD,G,fN]
   case enter f args=>
    obtain⟨rfl,hc⟩:=hJ
    have fv:∀τ,Ak τ (tp wl (along wl (w'.at d)))->a9 P f args (tp (tp wl (along wl (w'.at d))) τ) λe az=>∃v,e=.returned v/\dn E (⟨fn,eI o.dst tm v,.inRegion ops rest::k⟩::os) az V:=by
     intro τ _;rcases ap with⟨x,w2,ex,_⟩|⟨_,_,h3⟩
     .rw[ad]at ex; cases ex
     .have h4:=h3 τ (by rw[ad]; intro j a b; simp only[D3]at b; omega);rw[ad]at h4;have h4:(a7 _ o).run P (tp wl τ)=.ok _ _:=h4;have h5:=af τ;rw[h4]at h5;exact h5.2
    have hW:=iO.calls (E:=E) (fn:=fn) (tm:=tm) (os:=os) (V:=V) (k:=k) (rest:=rest) hi fv λe w' h=>h
    cases e3 with
    |@enter _ _ al hf hb ha=>
     have aj:bk P true (fN fn O (.inRegion ops (i::rest)::k)) cs' none (a7 (iJ O) o) (w'.at d)=.go (G (b9 P f al .normal) (fN fn O (.inRegion ops (i::rest)::k)::cs')) w₁ (aK P fn (if(CallKind.normal==CallKind.early)=true then #[]else es)):=by
      unfold bk;simp only[if_true,e1];simp[bD,G,fN]
     have ak:=runT_crowd_go (P:=P) (sl:=aa) (i:=0) ah (show aD P _ _ _=_ from aq.trans aj);rw[ak];refine E.Z.next _ _ _ _ ?_;have Y:=W.le e2 e5;have ae:=ai.mono e2;exact hW U Pd ρ' _ _ aa _ _ _ _ Y (ab.wN (gs':=(gs'.map _).setIfInBounds 0 _) e2 e5 au e4 (by simp) (gE _)) (am.le e2 hK) ae (.one (Cv (Y.pj.env.calls f hf) hb ha _ _) rfl (.inl ⟨rfl,tk (.inl (by simp)) ae⟩) rfl) (by simp[ar])
theorem tC(o:Option Tmp)(tm:Array Value)(v:Value):(Act.put ⟨tm,[]⟩ o v)=⟨eI o tm v,[]⟩:=by cases o<;>rfl
def Td(E:Env P)(fn:a8)(ops:Array Oper)(k:List Item)(os:List OF)(V:List (Nat×Option (List Value)))(l:List Nat)(a:Act)(w:World):Prop:=a.defers=[]->dn E (⟨fn,a.tmps,.inRegion ops l::k⟩::os) w V
theorem GM(W:∀(i:Nat)o,i≠last->ops[i]?=some o->OkOp P E.fu E.gl E.st o.op):Ir P ops last (Td E fn ops k os V) where
 op:=by
  intro i rest a w o hl U Y hj O;obtain⟨tm,df⟩:=a;simp only at O;subst O;refine dn.any U Y (W i o hl U) λτ=>?_;have:=hj τ;unfold gh at this;refine iM.mono (λv y ⟨_,h⟩=>?_) this;rw[tC]at h;exact h rfl
 pass:=by
  intro i rest a w o _ U Y h O;obtain⟨tm,df⟩:=a;simp only at O;subst O;rw[tC]at h;exact dn.pass U Y (h rfl)
theorem dn.vW{tl:List Nat->Prop}(hm:P.follows .mixedOrders=true)(O:∀(i:Nat)o,i≠last->ops[i]?=some o->OkOp P E.fu E.gl E.st o.op)(h:WS P .any ops last tl Sd ops.size (aW ops.size false) (kY wl) ⟨tm,[]⟩)
  (U:∀a y l,tl l->Sd a y->a.defers=[]/\dn E (⟨fn,a.tmps,.inRegion ops (last::l)::k⟩::os) y V):dn E (⟨fn,tm,.code (.region id ops true)::k⟩::os) wl V:=by
 refine dn.Qd λt=>?_;simp only[aV,hm,bp,if_true];exact WS.sound (GM O) (λa y l W h _=>(U a y l W h).2) _ t _ _ _ wl (kY.free wl) (kY.at wl _) h rfl
theorem dn.I9{tl:List Nat}(hm:P.follows .mixedOrders=true)(O:∀(i:Nat)o,i≠last->ops[i]?=some o->OkOp P E.fu E.gl E.st o.op)(h:WS P .any ops last (· = tl) Sd ops.size (aW ops.size false) (kY wl) ⟨tm,[]⟩)
  (U:∀a y,Sd a y->a.defers=[]/\dn E (⟨fn,a.tmps,.inRegion ops (last::tl)::k⟩::os) y V):dn E (⟨fn,tm,.code (.region id ops true)::k⟩::os) wl V:=
 dn.vW hm O h λa y l W Y=>by rw[show l=tl from W]; exact U a y Y
end
end
section
open Go.Conc
variable {p:Addr} {tm:Array Value} {v:Value}
structure zG(P:Program)(f:a8)(gK:Func)(s:Tmp)(ty:aC)(ops:Array Oper)(rest:Code):Prop where
 fn:P.funcs[f]?=some gK
 body:gK.body=some (.seq (.region 0 ops false) rest)
 name:gK.name≠ "runtime.NumGoroutine"
 two:∃q0 q1 a0 a1,ops=#[{dst:=some s,op:=.load ty (.tmp 0),type:=ty,pos:=q0,after:=a0,guard:=none},{dst:=none,op:=.defer {callee:=.builtin .close,args:=#[.tmp s],argTypes:=#[ty]},type:=0,pos:=q1,after:=a1,guard:=none}]
 load:∀(a:Addr)(v:Value)(w:World),w.cell? a=some v->(bH ty (.pointer (some a)) >>= λv=>(pure (.value v):Sem Go.Next)).runT P w #[]=(.ok (.value v) w,#[⟨.cell a,false,false⟩])
def xd(P:Program):Frame:={(default:Frame)with fn:=P.funcs.size,defers:=[],mode:=.panicking [goexitEntry]}
section
variable {P:Program} {f:a8} {gK:Func} {s:Tmp} {ty:aC} {ops:Array Oper} {rest:Code}
def DF(f:a8)(tm:Array Value)(td:List Item)(O:List Deferred):Frame:=⟨f,tm,td,O,.run,.deferred,none⟩
theorem C9(O:zG P f gK s ty ops rest)(cap:Array Value)(w:World):aD P false (lz P ⟨.fn (.func f) cap,#[]⟩) w=.go (G (DF f (cap++aW (gK.ntmps-cap.size) bI) [.code (.seq (.region 0 ops false) rest)] []) [xd P]) w #[]:=by
 have W:(gK.name == "runtime.NumGoroutine")=false:=by simpa using O.name
 have U:(invoke (.fn (.func f) cap) #[]).runT P w #[]=(.ok (.enter f cap) w,#[]):=by
  have e:invoke (.fn (.func f) cap) #[]=callFunc f _:=rfl;rw[e,bf];unfold callFunc;have Y:∀k:Program->Sem Go.Next,(program >>= k).runT P w #[]=(k P).runT P w _:=λk=>rfl;rw[Y];simp only[O.fn,W,O.body,bn,if_false,Option.isNone_some];rfl
 have e1:aD P false (lz P ⟨.fn (.func f) cap,#[]⟩) w=aN P (xd P) [] none ⟨.fn (.func f) cap,#[]⟩ w:=rfl;rw[e1];unfold aN;simp only[U,Bool.false_and,bn,if_false];simp[bD,G,DF,b9,O.fn,O.body,aK]
theorem EM(f:a8)(tm:Array Value)(td:List Item)(O:List Deferred):(DF f tm td O).eval=iJ tm:=by funext x; cases x<;>rfl
theorem DV(hc:zG P f gK s ty ops rest){w:World}{ps:Frame}(hq:(P.funcs[f]?).any (·.norace)=false)(hp:tm.getD 0 bI=.pointer (some p))(hv:w.cell? p=some v) :
  aD P false (G (DF f tm [.inRegion ops [0,1],.code rest] []) [ps]) w=.go (G (DF f (tm.setIfInBounds s v) [.inRegion ops [1],.code rest] []) [ps]) w #[⟨.cell p,false,false⟩]:=by
 obtain⟨Y,q1,a0,a1,U⟩:=hc.two;have e:aD P false (G (DF f tm [.inRegion ops [0,1],.code rest] []) [ps]) w=bl P false true (DF f tm [.inRegion ops [0,1],.code rest] []) _ none w:=rfl;rw[e];have he:=EM f tm [.inRegion ops [0,1],.code rest] []
 have W:(a7 (iJ tm) {dst:=some s,op:=.load ty (.tmp 0),type:=ty,pos:=Y,after:=a0,guard:=none}).runT P w #[]=(.ok (.value v) w,#[⟨.cell p,false,false⟩]):=by
  have e1:a7 (iJ tm) {dst:=some s,op:=.load ty (.tmp 0),type:=ty,pos:=Y,after:=a0,guard:=none}=(bH ty _ >>= λv=>pure _):=rfl;rw[e1];have e2:iJ tm (.tmp 0)=.pointer _:=hp;rw[e2];exact hc.load p v w hv
 unfold bl;have O:ops[0]?=some {dst:=some s,op:=.load ty (.tmp 0),type:=ty,pos:=Y,after:=a0,guard:=none}:=by rw[U]; rfl
 simp only[DF,O,bG,bE];rw[if_pos (by simp[aO])];unfold bm;simp only[bB,O];have aa:bC ⟨f,tm,[.inRegion ops _,.code rest],[],.run,.deferred,none⟩=iJ tm:=he;rw[aa];unfold bk;simp only[if_true,W];simp[bD,G,bA,O,aK,hq]
def Rw(s:Tmp):Array Bool:=(#[Operand.tmp s]).map fun|.const _=>true|_=>false
theorem Cl(hc:zG P f gK s ty ops rest){w:World}{ps:Frame}(hs:tm.getD s bI=v):aD P false (G (DF f tm [.inRegion ops [1],.code rest] []) [ps]) w=.go (G (DF f tm [.inRegion ops [],.code rest] [⟨.builtin .close #[ty] 0 (Rw s),#[v]⟩]) [ps]) w #[]:=by
 obtain⟨q0,Y,a0,a1,U⟩:=hc.two;have e:aD P false (G (DF f tm [.inRegion ops [1],.code rest] []) [ps]) w=bl P false true (DF f tm [.inRegion ops [1],.code rest] []) _ none w:=rfl;have he:=EM f tm [.inRegion ops [1],.code rest] []
 have W:(a7 (iJ tm) {dst:=none,op:=.defer {callee:=.builtin .close,args:=#[.tmp s],argTypes:=#[ty]},type:=0,pos:=Y,after:=a1,guard:=none}).runT P w #[]=(.ok (.defer ⟨.builtin .close #[ty] 0 (Rw s),#[v]⟩) w,#[]):=by
  have ha:(#[Operand.tmp s]).map (iJ tm)=#[v]:=by simp[iJ,Act.eval,<-hs]
  have e1:a7 (iJ tm) {dst:=none,op:=.defer {callee:=.builtin .close,args:=#[.tmp s],argTypes:=#[ty]},type:=0,pos:=Y,after:=a1,guard:=none}=pure _:=rfl;rw[e1,ha];rfl
 rw[e];unfold bl;have O:ops[1]?=some {dst:=none,op:=.defer {callee:=.builtin .close,args:=#[.tmp s],argTypes:=#[ty]},type:=0,pos:=Y,after:=a1,guard:=none}:=by rw[U]; rfl
 simp only[DF,O,bG,bE];rw[if_pos (by simp[aO])];unfold bm;simp only[bB,O];have aa:bC ⟨f,tm,[.inRegion ops _,.code rest],[],.run,.deferred,none⟩=iJ tm:=he;rw[aa];unfold bk;simp only[if_true,W];simp[bD,G,bA,O,aK]
theorem A5{J:mM}{m:Ren}{S:LS}{cap O:Array Value}(hc:zG P f gK s ty ops rest)(hq:(P.funcs[f]?).any (·.norace)=false)(ah:l6 P m J.gl false)(aa:¬m.ig)(ai:Open m)(hJ:J.Ren m)(hT:J.T=[xd P])(U:ep m cap O)(aj:cap[0]?=some (.pointer (some p)))(av:s≠0)(hs:s<gK.ntmps)(hn:cap.size<=gK.ntmps)(ak:S.w.cell? p=some (.chan (some J.r)))(al:fD m.ok rest)
  (hS:S.fr=⟨f,(cap++aW (gK.ntmps-cap.size) bI).setIfInBounds s (.chan (some J.r)),[.code rest],[⟨.collected J.rd,#[.chan (some J.r)]⟩],.run,.normal,none⟩) (ab:S.cs=[door P]):rh P J m S 5 (lz P ⟨.fn (.func f) O,#[]⟩):=by
 have aw:∀w:World,w.at w.drawn=w:=λw=>rfl;obtain⟨q',ac,am⟩:=U.get aj
 have an:∃p',q'=.pointer (some p')/\AR m p p':=by
  cases am with
  |ptr ha=>exact⟨_,rfl,ha⟩
 obtain⟨p',rfl,ad⟩:=an
 have ae:(O++aW (gK.ntmps-O.size) bI).getD 0 bI=.pointer (some p'):=by
  have ao:0<O.size:=(aY.1 ac).1;rw[aZ,ba ao,ac];rfl
 have Y:∀w,WR m S.w w->w.cell? p'=some (.chan (some J.c)):=by
  intro w W;obtain⟨v',ap,aq⟩:=W.cell ad ak
  cases aq with
  |chan hb=>
   rw[hJ.ch]at hb;cases hb;exact ap
 have ar:O.size=cap.size:=U.size.symm;refine⟨rfl,λw W=>⟨_,w.drawn,#[],C9 hc O w,by simp,?_⟩⟩;refine⟨rfl,λw W=>⟨G (DF f (O++aW (gK.ntmps-O.size) bI) [.code (.region 0 ops false),.code rest] []) [xd P],w.drawn,#[],rfl,by simp,?_⟩⟩;refine⟨rfl,λw W=>⟨G (DF f (O++aW (gK.ntmps-O.size) bI) [.inRegion ops [0,1],.code rest] []) [xd P],w.drawn,#[],?_,by simp,?_⟩⟩
 .obtain⟨q0,q1,a0,a1,af⟩:=hc.two;have:bw ops.size=[0,1]:=by rw[af]; rfl
  show bl P false true (DF f (O++aW (gK.ntmps-O.size) bI) [.code (.region 0 ops false),.code rest] []) [xd P] none w=_;unfold bl;simp[DF,G,this];rfl
 refine⟨rfl,λw W=>⟨_,w.drawn,_,DV (ps:=xd P) hc hq ae (Y w W),?_,?_⟩⟩
 .intro e he;simp only[List.mem_toArray,br,bq,or_false]at he;subst he;exact⟨rfl,p,ad,λh=>by cases h⟩
 have ag:((O++aW (gK.ntmps-O.size) bI).setIfInBounds s (.chan (some J.c))).getD s bI=.chan (some J.c):=by
  have hz:(O++aW (gK.ntmps-O.size) bI).size=gK.ntmps:=by simp; omega
  have:s<(O++aW (gK.ntmps-O.size) bI).size:=by rw[hz]; exact hs
  rw[aZ,Array.getElem?_setIfInBounds_self_of_lt this];rfl
 have au:=λw=>Cl (ps:=xd P) (w:=w) hc ag;refine⟨rfl,λw W=>⟨_,w.drawn,#[],au w,by simp,?_⟩⟩;refine⟨rfl,λw W=>⟨DF f _ _ _,[xd P],w.drawn,#[],rfl,by simp,?_⟩⟩;refine⟨ah,aa,ai,?_,W.at _⟩;rw[ab,hS,hT];refine .one ⟨rfl,?_,.cons (.code rest al) .nil,.cons ⟨.mark _ _ _ hJ.dead,.one (.chan hJ.ch)⟩ .nil,.run,.none⟩ rfl (.inr ⟨rfl,xd P,rfl,rfl⟩) rfl;rw[ar];exact(U.append (.replicate _ (.undef m))).set s (.chan hJ.ch)
end
end
section
open Go.Conc
variable {c:Array Value} {caps:List Nat} {r:Nat}
structure Ren.xM(m m':Ren):Prop where
 blk:m'.blk=m.blk
 ch:m'.ch=m.ch
 ok:m'.ok=m.ok
 fu:m'.fu=m.fu
 ig:m'.ig=m.ig
 dead:m'.dead=m.dead
 dm:m'.dm=m.dm
 G:m'.G=m.G
 rP:m'.rP=m.rP
section
variable {m m':Ren}
theorem AR.jU(h:m.xM m'){a O:Addr}(x:AR m a O):AR m' a O:=by cases x with|mk hb=>exact .mk (by rw[h.blk]; exact hb)
theorem M7.jU(h:m.xM m'){a O:Fn}(x:M7 m a O):M7 m' a O:=by
 cases x with
 |func f U=>exact .func f (by rw[h.fu]; exact U)
 |yield hb=>exact .yield (by rw[h.blk]; exact hb)
theorem VR.jU(h:m.xM m'){v v':Value}(x:VR m v v'):VR m' v v':=by
 induction x with
 |fJ v hv=>exact .fJ v hv
 |qx O _ W U=>exact .qx O U W
 |bool|int|string|gM|ft|mz|iR|nilFunc|nilIface=>constructor
 |ptr Y=>exact .ptr (Y.jU h)
 |slice l c Y=>exact .slice l c (Y.jU h)
 |map hb=>exact .map (by rw[h.blk]; exact hb)
 |gone hd=>rw[<-h.dm]; exact .gone (by rw[h.dead]; exact hd)
 |chan hb=>exact .chan (by rw[h.ch]; exact hb)
 |func hf O _ W _ i1 i2=>exact .func (hf.jU h) O i1 W i2
 |iface t _ U=>exact .iface t U
 |agg O _ U=>exact .agg O U
 |tuple O _ U=>exact .tuple O U
theorem ep.jU(h:m.xM m'){O:Array Value}(x:ep m c O):ep m' c O:=dO.mono (λ_ _=>VR.jU h) x
theorem TR.jU(h:m.xM m'){a O:Target}(x:TR m a O):TR m' a O:=by
 cases x with
 |fn U=>exact .fn (U.imp (λy=>⟨y.1.jU h,y.2.jU h⟩) id)
 |nil=>exact .nil
 |builtin a t c hm=>exact .builtin a t c (by rw[h.ig]; exact hm)
 |mark a t c W=>exact .mark a t c (by rw[h.dead]; exact W)
 |collected hb=>exact .collected (by rw[h.blk]; exact hb)
theorem DR.jU(h:m.xM m'){a O:Deferred}(x:DR m a O):DR m' a O:=⟨x.target.jU h,x.args.jU h⟩
theorem sQ.jU(h:m.xM m'){a O:MapEntry}(x:sQ m a O):sQ m' a O:=⟨x.key.jU h,x.val.jU h,x.born⟩
theorem wm.jU(h:m.xM m'){a O:Loop}(x:wm m a O):wm m' a O:=
 ⟨x.state,x.pending,λc U=>by rw[h.ok]; exact x.TD c U,x.fn,x.tmps.jU h,x.params,x.assign,x.body,by rw[h.ok]; exact x.SR,by rw[h.ok]; exact x.xh,by rw[h.blk]; exact x.defers⟩
theorem OR.jU(h:m.xM m'){a O:Obj}(x:OR m a O):OR m' a O:=by
 cases x with
 |cells e f f' U=>exact .cells e f f' (U.jU h)
 |map clock W=>exact .map clock (dO.mono (λ_ _ y=>y.jU h) W)
 |number l Y=>exact .number l (Y.jU h)
 |stringIter s p=>exact .stringIter s p
 |fU a b c=>exact .fU a b c
 |mapIter a b c hb=>exact .mapIter a b c (by rw[h.blk]; exact hb)
 |loop hl=>exact .loop (hl.jU h)
 |eR=>exact .eR
 |deferred hd=>exact .deferred (dO.mono (λ_ _ y=>y.jU h) hd)
theorem nK.jU(h:m.xM m'){T:List Frame}{os:List OF}{l:List Frame}(x:nK m T os l):nK m' T os l:=by
 induction x with
 |nil=>exact .nil
 |cons O _ U=>exact .cons (O.jU h) U
end
def N6:Obj->Obj
 |.cells c e _=>.cells c e (0,c.size)
 |o=>o
def sJ(w:World)(caps:List Nat):World:={w with heap:=w.heap.mapIdx λi o=>if i∈caps then N6 o else o}
def Ren.A4(m:Ren)(caps:List Nat):Ren:={m with loose:=λr=>m.loose r\/r∈caps}
theorem Ren.B6(m:Ren)(caps:List Nat):m.xM (m.A4 caps):=⟨rfl,rfl,rfl,rfl,rfl,rfl,rfl,rfl,rfl⟩
theorem xu(w:World)(caps:List Nat)(r:Nat):(sJ w caps).heap[r]?=(w.heap[r]?).map λo=>if r∈caps then N6 o else o:=by
 unfold sJ;simp only[Array.getElem?_mapIdx]
theorem tP(w:World)(caps:List Nat):(sJ w caps).heap.size=w.heap.size:=by simp[sJ]
theorem po(w:World)(h:r ∉ caps):(sJ w caps).heap[r]?=w.heap[r]?:=by
 rw[xu];cases w.heap[r]?<;>simp[h]
theorem y8(w:World)(h:r∈caps){e:aC}{f:Nat×Nat}(O:w.heap[r]?=some (.cells c e f)):(sJ w caps).heap[r]?=some (.cells c e (0,c.size)):=by
 rw[xu,O];simp[h,N6]
theorem WR.A4{m:Ren}{wl w:World}(h:WR m wl w)(hc:∀r∈caps,∃c e f,wl.heap[r]?=some (.cells c e f))(hd:∀r∈caps,¬m.dead r):WR (m.A4 caps) (sJ wl caps) w:=by
 have jU:=m.B6 caps
 have back:∀r c e f,(sJ wl caps).heap[r]?=some (.cells c e f)->∃f0,wl.heap[r]?=some (.cells c e f0)/\(r ∉ caps->f0=f)/\(r∈caps->f=(0,c.size)):=by
  intro r c e f Y;by_cases O:r∈caps
  .obtain⟨c0,e0,f0,U⟩:=hc r O;rw[y8 wl O U]at Y;cases Y;exact⟨f0,U,λx=>absurd O x,λ_=>rfl⟩
  .rw[po wl O]at Y;exact⟨f,Y,λ_=>rfl,λx=>absurd x O⟩
 refine⟨λr r' hb=>?_,λr r' c e f c' e' f' hb h1 h2 hn=>?_,λr r' c e f c' e' f' hb h1 h2 hl=>?_,λr r' hb=>?_,?_,h.JP,h.os,λr o ho=>?_,λr r' hb hl=>?_,λr Y=>?_,λr i v hv=>?_⟩
 .obtain⟨o,o',g1,g2,g3⟩:=h.obj r r' hb;by_cases O:r∈caps
  .obtain⟨c0,e0,f0,U⟩:=hc r O;rw[U]at g1;cases g1
   cases g3 with
   |cells _ _ f' aa=>exact⟨_,_,y8 wl O U,g2,.cells _ _ _ (aa.jU jU)⟩
  .exact⟨o,o',by rw[po wl O]; exact g1,g2,g3.jU jU⟩
 .obtain⟨f0,U,x,_⟩:=back r c e f h1;have W:=λy=>hn (.inr y);rw[<-x W];exact h.fz r r' c e f0 c' e' f' hb U h2 λy=>hn (.inl y)
 .obtain⟨f0,U,x,y⟩:=back r c e f h1;by_cases O:r∈caps
  .rw[y O];exact λo ho=>⟨b4 _,ho⟩
  .rw[<-x O];exact h.all r r' c e f0 c' e' f' hb U h2 (hl.resolve_right O)
 .have:=h.M5 r r' hb;exact⟨by rw[tP]; exact this.1,this.2⟩
 .rw[tP]; exact h.M4
 .obtain⟨g1,g2⟩:=h.kJ r o ho;refine⟨?_,g2⟩
  have W:r ∉ caps:=λO=>by
   obtain⟨c0,e0,f0,U⟩:=hc r O;obtain⟨a,b,c,d,e,f,rfl⟩:=g2;rw[U]at g1;cases g1
  rw[po wl W]; exact g1
 .by_cases O:r∈caps
  .obtain⟨c0,e0,f0,U⟩:=hc r O;exact⟨_,_,_,y8 wl O U⟩
  .obtain⟨c0,e0,f0,U⟩:=h.lk r r' hb (hl.resolve_right O);exact⟨_,_,_,by rw[po wl O]; exact U⟩
 .obtain⟨g1,c0,e0,f0,g⟩:=h.dead r Y;have W:=λO=>hd r O Y;exact⟨g1,c0,e0,f0,by rw[po wl W]; exact g⟩
 .obtain⟨r',hb,hp⟩:=h.rP r i v hv;refine⟨r',hb,λc e f c' e' f' x g1 g2=>?_⟩;obtain⟨f0,U,_,_⟩:=back r c e f g1;exact hp c e f0 c' e' f' x U g2
end
section
open Go.Conc
variable {c i:Nat} {B:Nat->Nat} {M:Option Nat}
def SM:Obj:=.cells #[] 0 (0,0)
def JZ(C:Nat->Obj)(ch ex:Obj):Array Obj:=#[SM,SM,SM,SM,SM,C 0,C 1,C 2,C 3,SM,ch,ex]
def Ij(B:Nat->Nat)(M:Option Nat)(r:Nat):Option Nat:=if 5<=r/\r<9 then some (B (r-5))else if r=11 then M else none
structure TV(B:Nat->Nat)(M:Option Nat):Prop where
 low:∀i,i<4->5<=B i
 inj:∀i j,i<4->j<4->B i=B j->i=j
 Uu:∀b,M=some b->5<=b
 U0:∀b i,M=some b->i<4->B i≠b
theorem ia{r b:Nat}(h:Ij B M r=some b):(∃i,i<4/\r=5+i/\b=B i)\/(r=11/\M=some b):=by
 unfold Ij at h;split at h
 .exact .inl ⟨r-5,by omega,by omega,(Option.some.inj h).symm⟩
 .split at h
  .rename_i O; exact .inr ⟨O,h⟩
  .cases h
theorem LU(B:Nat->Nat)(M:Option Nat)(hi:i<4):Ij B M (5+i)=some (B i):=by
 unfold Ij;rw[if_pos (by omega)];congr 2;omega
def Ad{B:Nat->Nat}{M:Option Nat}(h:TV B M)(c:Nat)(ch:Obj):Ren where
 blk:=Ij B M
 ch:=λr=>if r=10 then some c else none
 loose:=λr=>5<=r/\r<9
 ok:=Nf prog tY D6 false
 fu:=λf=>tY f=true
 ig:=False
 dead:=λr=>r=9
 dm:=λ_=>0
 rP:=λ_ _=>none
 kJ:=λr=>if r=10 then some ch else none
 G:=5
 oh:=λr r' O=>by
  rcases ia O with⟨i,hi,rfl,rfl⟩|⟨rfl,U⟩
  .have:=h.low i hi
   constructor<;>intro x<;>omega
  .have:=h.Uu r' U
   constructor<;>intro x<;>omega
 inj:=λr s t O W=>by
  rcases ia O with⟨i,hi,rfl,rfl⟩|⟨rfl,U⟩
  .rcases ia W with⟨j,Y,rfl,e⟩|⟨rfl,U⟩
   .rw[h.inj i j hi Y e]
   .exact absurd rfl (h.U0 _ i U hi)
  .rcases ia W with⟨j,Y,rfl,rfl⟩|⟨rfl,_⟩
   .exact absurd rfl (h.U0 _ j U Y)
   .rfl
 uB:=λr s t O W=>by
  split at O
  .split at W
   .rename_i e1 e2; rw[e1,e2]
   .cases W
  .cases O
theorem Pv(h:TV B M)(c:Nat)(ch:Obj):l6 prog (Ad h c ch) (λg=>D6 g=true) false:=PK rfl rfl rfl
theorem Bp(C:Nat->Obj)(ch ex:Obj)(hi:i<4):(JZ C ch ex)[5+i]?=some (C i):=by
 match i,hi with
 |0,_=>rfl
 |1,_=>rfl
 |2,_=>rfl
 |3,_=>rfl
theorem WR.RF(h:TV B M){C:Nat->Obj}{cap:Nat}{ex:Obj}{Y w:World}(W:Y.heap=JZ C (.chan cap #[] false 0 0 false) ex)(ab:w.os=Y.os)(ac:5<=w.heap.size)(hc:c<w.heap.size)
  (U:∀i,i<4->∃a a' e f',C i=.cells a e (0,a.size)/\w.heap[B i]?=some (.cells a' e f')/\ep (Ad h c (.chan cap #[] false 0 0 false)) a a')
  (hM:∀b,M=some b->∃o',w.heap[b]?=some o'/\OR (Ad h c (.chan cap #[] false 0 0 false)) ex o'/\∀a e f,ex≠.cells a e f):WR (Ad h c (.chan cap #[] false 0 0 false)) Y w:=by
 have get:∀i,i<4->Y.heap[5+i]?=some _:=λi hi=>by rw[W]; exact Bp C _ ex hi
 have aa:Y.heap[11]?=some ex:=by rw[W]; rfl
 refine⟨λr r' O=>?_,λr r' c1 e1 f1 c2 e2 f2 O h1 h2 hn=>?_,λr r' c1 e1 f1 c2 e2 f2 O h1 h2 hl=>?_,λr r' O=>?_,(by rw[W]; show 5<=12; omega),ac,ab,λr o O=>?_,λr r' O hl=>?_,λr O=>?_,λr i v hv=>(by cases hv)⟩
 .rcases ia O with⟨i,hi,rfl,rfl⟩|⟨rfl,hm⟩
  .obtain⟨a,a',e,f',x1,x2,x3⟩:=U i hi;exact⟨_,_,by rw[get i hi,x1],x2,.cells e _ f' x3⟩
  .obtain⟨o',x1,x2,_⟩:=hM r' hm;exact⟨_,_,aa,x1,x2⟩
 .rcases ia O with⟨i,hi,rfl,rfl⟩|⟨rfl,hm⟩
  .exact absurd (show(Ad h c _).loose _ from⟨by omega,by omega⟩) hn
  .rw[aa]at h1;obtain⟨_,_,_,x⟩:=hM r' hm;cases h1;exact absurd rfl (x _ _ _)
 .rcases ia O with⟨i,hi,rfl,rfl⟩|⟨rfl,hm⟩
  .obtain⟨a,a',e,f',x1,x2,x3⟩:=U i hi;rw[get i hi,x1]at h1;cases h1;exact λo ho=>⟨b4 _,ho⟩
  .exact absurd hl.2 (by omega)
 .have O:(if r=10 then some c else none)=some r':=O;split at O
  .rename_i e;cases O;exact⟨by rw[W,e]; show 10<12; omega,hc⟩
  .cases O
 .have O:(if r=10 then some _ else none)=some o:=O;split at O
  .rename_i e;cases O;exact⟨by rw[W,e]; rfl,_,_,_,_,_,_,rfl⟩
  .cases O
 .rcases ia O with⟨i,hi,rfl,rfl⟩|⟨rfl,hm⟩
  .obtain⟨a,a',e,f',x1,x2,x3⟩:=U i hi;exact⟨_,_,_,by rw[get i hi,x1]⟩
  .exact absurd hl.2 (by omega)
 .have e:=O;subst e;exact⟨by simp[Ad,Ij],_,_,_,by rw[W]; rfl⟩
def Pe(P:Program)(f:a8)(L:List Value)(O:World->Prop)(S:LS):Prop:=S.cs=[door P]/\S.fr.mode=.returning/\S.fr.defers=[⟨.collected 9,#[.chan (some 10)]⟩]/\S.fr.fn=f/\Holds S 10 L/\O S.w
def Sw(P:Program)(f:a8)(L:List Value)(c:Nat)(O:World->Prop)(kZ:Nat->Nat->Obj->Prop):mM where
 gl:=λg=>D6 g=true
 T:=[xd P]
 Stop:=Pe P f L O
 r:=10
 c:=c
 rd:=9
 L:=L
 kZ:=kZ
theorem PL{f:a8}{L:List Value}{O:World->Prop}{kZ:Nat->Nat->Obj->Prop}{gK:Func}(hf:prog.funcs[f]?=some gK)(hr:gK.results=#[])(hn:gK.norace=false)(hb:∀w τ,O (tp w τ)->O w)(hk:∀w,O w->∀r b o,kZ r b o->w.heap[r]?=some o/\∀(m:Ren)o',OR m o o'->o'=o):(Sw prog f L c O kZ).Ok prog where
 blind:=λS τ ⟨U,W,Y,h4,h5,h6⟩=>⟨U,W,Y,h4,h5,hb _ _ h6⟩
 holds:=λS h=>h.2.2.2.2.1;T8:=λS ⟨U,W,Y,h4,_⟩=>⟨U,W,Y,gK,by rw[h4]; exact hf,hr,hn⟩;back:=λS h r b o x=>hk S.w h.2.2.2.2.2 r b o x
 U7:=⟨xd prog,rfl,rfl,rfl,by
  show prog.funcs[prog.funcs.size]?=none
  simp,rfl⟩
end
section
open Go.Conc
variable {m:Ren}
def wY(b:Nat->Nat):Array Value:=#[.pointer (some ⟨b 0,0,none⟩),.pointer (some ⟨b 1,0,none⟩),.pointer (some ⟨b 2,0,none⟩),.pointer (some ⟨b 3,0,none⟩)]
theorem MB(b:Nat->Nat){i:Nat}(hi:i<4):(wY b)[i]?=some (.pointer (some ⟨b i,0,none⟩)):=by
 match i,hi with
 |0,_=>rfl
 |1,_=>rfl
 |2,_=>rfl
 |3,_=>rfl
theorem Pq{b B:Nat->Nat}(h:∀i,i<4->m.blk (b i)=some (B i)):ep m (wY b) (wY B):=
 .cons (.ptr (.mk (h 0 (by omega)))) (.cons (.ptr (.mk (h 1 (by omega)))) (.cons (.ptr (.mk (h 2 (by omega)))) (.cons (.ptr (.mk (h 3 (by omega)))) .nil)))
theorem OO{b:Nat->Nat}{O:Array Value}(h:ep m (wY b) O):∃B:Nat->Nat,O=wY B/\∀i,i<4->m.blk (b i)=some (B i):=by
 have U:=h.size
 have get:∀i,i<4->∃B,O[i]?=some (.pointer (some ⟨B,0,none⟩))/\m.blk (b i)=some B:=by
  intro i hi;obtain⟨v',W,Y⟩:=h.get (MB b hi)
  cases Y with
  |ptr ha=>
   cases ha with
   |mk hb=>exact⟨_,W,hb⟩
 obtain⟨B0,a0,e0⟩:=get 0 (by omega);obtain⟨B1,a1,e1⟩:=get 1 (by omega);obtain⟨B2,a2,e2⟩:=get 2 (by omega);obtain⟨B3,a3,e3⟩:=get 3 (by omega);refine⟨λi=>match i with|0=>B0|1=>B1|2=>B2|_=>B3,?_,λi hi=>?_⟩
 .apply be;intro i
  match i with
  |0=>rw[a0]; rfl
  |1=>rw[a1]; rfl
  |2=>rw[a2]; rfl
  |3=>rw[a3]; rfl
  |i+4=>
   have:O.size=4:=U.symm;rw[aX (by omega),aX (by show 4<=i+4; omega)]
 .match i,hi with
  |0,_=>exact e0
  |1,_=>exact e1
  |2,_=>exact e2
  |3,_=>exact e3
theorem Rg.A4{P:Program}{E E₂:Env P}(h:Rg E m)(caps:List Nat)(O:∀m:Ren,m.ok=E₂.ok->m.fu=E₂.fu->m.G=P.globals.size->l6 P m E₂.gl E₂.st)(U:E₂.fu=E.fu)(W:E₂.ok=E.ok)(Y:E₂.X (m.A4 caps)):Rg E₂ (m.A4 caps):=
 ⟨O _ (h.RO.trans W.symm) (h.fu.trans U.symm) h.pj.env.G,h.ig,h.mB,h.fu.trans U.symm,h.RO.trans W.symm,Y⟩
structure UQ(E E₂:Env prog)(wl:World)(rc:Nat)(b:Nat->Nat)(cm cd:Nat->Array Value)(te:Nat->aC)(fz:Nat->Nat×Nat)(M:Option Nat)(ex:Obj):Prop where
 z:E₂.Z=E.Z
 t:E₂.T=E.T
 w:E₂.w0=E.w0
 fu:E₂.fu=E.fu
 ok:E₂.ok=E.ok
 pj:∀m:Ren,m.ok=E₂.ok->m.fu=E₂.fu->m.G=prog.globals.size->l6 prog m E₂.gl E₂.st
 x:∀m,Rg E m->E₂.X (m.A4 [b 0,b 1,b 2,b 3])
 fix:∀q,E₂.fA q↔E.fA q/\M≠some q
 low:∀i,i<4->5<=b i
 inj:∀i j,i<4->j<4->b i=b j->i=j
 cells:∀i,i<4->wl.heap[b i]?=some (.cells (cm i) (te i) (fz i))
 live:∀m,Rg E m->∀i,i<4->¬m.dead (b i)
 m0:cm 0=#[.chan (some rc)]
 d0:cd 0=#[.chan (some 10)]
 conv:∀i,1<=i->i<4->∀(m mi:Ren)w a',Rg E m->WR m wl w->(∀q,M=some q->mi.blk 11=some q)->ep m (cm i) a'->ep mi (cd i) a'
 map:∀q,M=some q->5<=q/\E.fA q/\E.w0.heap[q]?=some ex/\(∀m:Ren,OR m ex ex)/\(∀(m:Ren)o',OR m ex o'->o'=ex)/\(∀a e f,ex≠.cells a e f)/\∀(m:Ren)(r:Nat)(o:Obj),wl.heap[r]?=some o->¬OR m o ex
def sU(wl:World)(cd:Nat->Array Value)(te:Nat->aC)(cap:Nat)(ex:Obj):World:={wl with heap:=JZ (λi=>.cells (cd i) (te i) (0,(cd i).size)) (.chan cap #[] false 0 0 false) ex}
def ul(f:a8)(n:Nat)(s:Tmp)(rest:Code):Frame:=⟨f,(wY (λi=>5+i)++aW (n-4) bI).setIfInBounds s (.chan (some 10)),[.code rest],[⟨.collected 9,#[.chan (some 10)]⟩],.run,.normal,none⟩
theorem F8{E E₂:Env prog}{f:a8}{gK:Func}{s:Tmp}{ty:aC}{ops:Array Oper}{rest:Code}{wl:World}{rc:Nat}{b:Nat->Nat}{cm cd:Nat->Array Value}{te:Nat->aC}{fz:Nat->Nat×Nat}{M:Option Nat}{ex:Obj}{L:List Value}{cap:Nat}{os:List OF}
  (hc:zG prog f gK s ty ops rest) (ao:gK.results=#[]) (ap:gK.norace=false) (aw:s≠0) (hs:s<gK.ntmps) (hn:4<=gK.ntmps) (ax:js (λo=>Cu prog tY D6 false o.op) rest=true) (hL:∀v∈L,Flat v) (O:UQ E E₂ wl rc b cm cd te fz M ex)
  (aq:∀τ,∃n Y,runN prog n (aM (ul f gK.ntmps s rest) [door prog] (tp (sU wl cd te cap ex) τ))=.next (LS.m Y)/\Pe prog f L (λw=>M=none\/w.heap[11]?=some ex) Y) :
  Sends E E₂ f (wY b) os os wl (sJ wl [b 0,b 1,b 2,b 3]) rc L:=by
 refine⟨O.z,O.t,O.w,λq hq=>((O.fix q).1 hq).1,λv hv=>(hL v hv).eq,λm ay w c aa af hw az ar ab=>?_⟩;obtain⟨B,rfl,hB⟩:=OO af;have hG:m.G=5:=by rw[aa.pj.env.G,ya]
 have ag:∀r,r∈[b 0,b 1,b 2,b 3]↔∃i,i<4/\r=b i:=by
  intro r;constructor
  .intro h;simp only[br,bq,or_false]at h;rcases h with h|h|h|h
   .exact⟨0,by omega,h⟩
   .exact⟨1,by omega,h⟩
   .exact⟨2,by omega,h⟩
   .exact⟨3,by omega,h⟩
  .rintro⟨i,hi,rfl⟩
   match i,hi with
   |0,_=>simp
   |1,_=>simp
   |2,_=>simp
   |3,_=>simp
 have ah:∀q,M=some q->∀r,m.blk r≠some q:=by
  intro q hq r U;obtain⟨_,W,h3,_,_,_,h7⟩:=O.map q hq;obtain⟨o,o',e1,e2,e3⟩:=hw.obj r q U;rw[ab q W,h3]at e2;cases e2;exact h7 m r o e1 e3
 have hS:TV B M:=by
  refine⟨λi hi=>?_,λi j hi hj e=>?_,λq hq=>(O.map q hq).1,λq i hq hi e=>?_⟩
  .have:=(m.oh (b i) (B i) (hB i hi)).2;rw[hG]at this;have h5:=O.low i hi;apply Classical.byContradiction;intro hx;have:=this (by omega);omega
  .exact O.inj i j hi hj (m.inj _ _ _ (hB i hi) (e▸hB j hj))
  .exact ah q hq (b i) (e▸hB i hi)
 let mi:=Ad hS c (.chan cap #[] false 0 0 false);have ac:∀q,M=some q->mi.blk 11=some q:=λq hq=>by simp[mi,Ad,Ij,hq]
 have ad:mi.ch 10=some c:=by simp[mi,Ad]
 have au:c<w.heap.size:=by
  obtain⟨s,r,hx⟩:=ar;exact jC hx
 have ai:∀i,i<4->∃a',∃f',w.heap[B i]?=some (.cells a' (te i) f')/\ep m (cm i) a':=by
  intro i hi;obtain⟨o,o',h1,W,h3⟩:=hw.obj (b i) (B i) (hB i hi);rw[O.cells i hi]at h1;cases h1
  cases h3 with
  |cells _ _ f' ha=>exact⟨_,f',W,ha⟩
 have aj:∀i,i<4->∀a',ep m (cm i) a'->ep mi (cd i) a':=by
  intro i hi a' ha;by_cases h0:i=0
  .subst h0;rw[O.m0]at ha;rw[O.d0];obtain⟨al⟩:=a';unfold ep at ha⊢;simp only at ha⊢
   cases ha with
   |cons hv hn=>
    cases hn
    cases hv with
    |chan hb=>
     rw[az]at hb;cases hb;exact .cons (.chan ad) .nil
  .exact O.conv i (by omega) hi m mi w a' aa hw ac ha
 have a0:WR mi (sU wl cd te cap ex) w:=by
  refine WR.RF (C:=λi=>.cells (cd i) (te i) (0,(cd i).size)) (ex:=ex) hS rfl hw.os (by have:=hw.JP; omega) au (λi hi=>?_) (λq hq=>?_)
  .obtain⟨a',f',h1,W⟩:=ai i hi;exact⟨cd i,a',te i,f',rfl,h1,aj i hi a' W⟩
  .obtain⟨_,W,h3,h4,_,h6,_⟩:=O.map q hq;exact⟨ex,by rw[ab q W,h3],h4 mi,h6⟩
 have ak:∀r r',mi.ch r=some r'->r=10:=by
  intro r r' U;have U:(if r=10 then some c else none)=some r':=U;split at U
  .rename_i e; exact e
  .cases U
 have av:=Pv hS c (.chan cap #[] false 0 0 false)
 have ae:(Sw prog f L c (λw=>M=none\/w.heap[11]?=some ex) (λr q o=>r=11/\M=some q/\o=ex)).Ren mi:=
  ⟨ad,ak,rfl,λr q o ⟨h1,W,_⟩=>by rw[h1]; exact ac q W⟩
 have am:Open mi:=λr r' U=>by
  have U:(if r=10 then some c else none)=some r':=U;split at U
  .rename_i e;exact⟨cap,#[],0,0,false,by simp[mi,Ad,e]⟩
  .cases U
 let S:LS:=⟨ul f gK.ntmps s rest,[door prog],sU wl cd te cap ex⟩;have an:=m.B6 [b 0,b 1,b 2,b 3];refine⟨Sw prog f L c (λw=>M=none\/w.heap[11]?=some ex) (λr q o=>r=11/\M=some q/\o=ex),mi,S,5,m.A4 [b 0,b 1,b 2,b 3],rfl,rfl,PL hc.fn ao ap (λw τ h=>h) (λw hk r q o ⟨h1,W,h3⟩=>?_),ae,λτ _=>?_,?_,a0,?_,aa.A4 _ O.pj O.fu O.ok (O.x m aa),hw.A4 (λr U=>?_) (λr U=>?_),rfl,λl hl=>hl.jU an,λr q U=>⟨r,U,λh=>.inl h⟩,λr q U=>?_,λr r' q h1 W=>?_,λr q U hf=>?_,λq hq=>?_⟩
 .subst h1 h3;obtain⟨_,_,_,_,h5,_⟩:=O.map q W;exact⟨hk.resolve_left (by rw[W]; simp),h5⟩
 .obtain⟨n,Y,h1,W⟩:=aq τ;exact⟨n,Y,h1,W,by rw[W.1]; simp⟩
 .exact⟨cap,#[],0,0,false,rfl,rfl⟩
 .refine A5 (cap:=wY λi=>5+i) (p:=⟨5,0,none⟩) hc (by rw[hc.fn]; simp[ap]) av (λh=>h) am ae rfl (Pq λi hi=>LU B M hi) rfl aw hs hn ?_ (nf ax) rfl rfl;show(sU wl cd te cap ex).cell? ⟨5,0,none⟩=_
  have hg:(sU wl cd te cap ex).heap[5]?=some (.cells #[.chan (some 10)] (te 0) (0,1)):=by
   show(JZ _ _ _)[5]?=_;rw[show(5:Nat)=5+0 from rfl,Bp _ _ _ (by omega:(0:Nat)<4),O.d0];rfl
  unfold World.cell?;simp only[hg];rfl
 .obtain⟨i,hi,rfl⟩:=(ag r).1 U;exact⟨_,_,_,O.cells i hi⟩
 .obtain⟨i,hi,rfl⟩:=(ag r).1 U;exact O.live m aa i hi
 .rcases ia U with⟨i,hi,rfl,rfl⟩|⟨rfl,hm⟩
  .exact .inl ⟨b i,hB i hi,λ_=>⟨by omega,by omega⟩⟩
  .obtain⟨_,W,_,_,_,_,h7⟩:=O.map q hm;exact .inr ⟨W,ah q hm,λhx=>((O.fix q).1 hx).2 hm⟩
 .rcases ia W with⟨i,hi,rfl,rfl⟩|⟨rfl,hm⟩
  .have:=m.inj _ _ _ h1 (hB i hi);exact⟨.inr ((ag r).2 ⟨i,hi,this⟩),by omega,by omega⟩
  .exact absurd h1 (ah q hm r)
 .rcases ia U with⟨i,hi,rfl,rfl⟩|⟨rfl,hm⟩
  .exact⟨by omega,by omega⟩
  .exact absurd hm ((O.fix q).1 hf).2
 .by_cases hm:M=some q
  .exact .inr ⟨11,ex,⟨rfl,hm,rfl⟩,(O.map q hm).2.2.1⟩
  .exact .inl ((O.fix q).2 ⟨hq,hm⟩)
end
section
open Go.Conc Go.RowKit
def uS(f:Func):Code:=match f.body with
 |some (.seq _ r)=>r
 |_=>.skip
def opsOf(f:Func):Array Oper:=match f.body with
 |some (.seq (.region _ o _) _)=>o
 |_=>#[]
theorem JF(a:Addr)(v:Value)(w:World)(h:w.cell? a=some v):(bH 167 (.pointer (some a)) >>= λv=>(pure (.value v):Sem Go.Next)).runT prog w #[]=(.ok (.value v) w,#[⟨.cell a,false,false⟩]):=by
 have O:∀w,(isAgg 167).runT prog w #[]=(.ok false w,#[]):=by intro w; kernel_rfl
 have U:(bH 167 (.pointer (some a)) >>= λv=>(pure (.value v):Sem Go.Next))=(isAgg 167 >>= λb=>((if b=true then(do pure (.agg (<-loadCells a (<-sizeOf 167))))else load a) >>= λv=>(pure (.value v)))):=by
  show(loadVar _ a >>= _)=_;unfold loadVar;rw[bind_assoc]
 rw[U];show((isAgg _).bind _).runT .. = _;rw[Sem.runT_bind',O];show(load a >>= λv=>(pure _)).runT .. = _;have W:(load a >>= λv=>(pure (.value v):Sem Go.Next))=.load _ a _:=rfl;rw[W];simp only[Sem.runT,h];rfl
theorem Tn:zG prog 120 f120 6 167 (opsOf f120) (uS f120):=
 ⟨by kernel_rfl,by kernel_rfl,by decide,⟨_,_,_,_,rfl⟩,JF⟩
theorem TM:zG prog 116 f116 4 167 (opsOf f116) (uS f116):=
 ⟨by kernel_rfl,by kernel_rfl,by decide,⟨_,_,_,_,rfl⟩,JF⟩
theorem SS:js (λo=>Cu prog tY D6 false o.op) (uS f120)=true:=by kernel_rfl
theorem Tu:js (λo=>Cu prog tY D6 false o.op) (uS f116)=true:=by kernel_rfl
end
section
open Go.RowKit
theorem nZ(i:Nat){P:Program}{ops:Array Oper}{md:Region.Mode}{Q:Exit->Act->World->Prop}{oi:Oper}{fuel:Nat}{listed:Array Bool}{C:World->Prop}{a:Act}
  (h:WX eU P md ops Q fuel (listed.setIfInBounds i true) C (a.put oi.dst bI)) (hi:ops[i]?=some oi:=by rfl) (O:aT ops=true:=by kernel_rfl) (U:aU md ops listed i=true:=by kernel_rfl) (W:(aP md ops listed).contains i=true:=by kernel_rfl) (hC:gD eU C:=by exact kw _)
  (Y:aO oi (a5 ops a.tmps)=false:=by rfl):WX eU P md ops Q (fuel+1) listed C a:=
 Ga hi (aR O) fuel listed C a (aS hi U) (by simpa using W) hC (.inr ⟨Y,rfl⟩) h
theorem KQ(x y:Nat)(O:x<256)(U:y<256):bits .and .i64 (x:Int) (y:Int)=((x &&& y:Nat):Int):=by
 show IntKind.i64.wrap ((BitVec.ofInt 64 x &&& BitVec.ofInt 64 y).toNat)=_;rw[BitVec.toNat_and]
 have e:∀n:Nat,n<256->(BitVec.ofInt 64 n).toNat=n:=λn W=>by
  rw[BitVec.toNat_ofInt]; omega
 rw[e x O,e y U];have Y:x &&& y<=x:=Nat.and_le_left;exact JS _ _ rfl (by omega) (by omega)
theorem PC(m tg:Nat)(qb:ByteArray)(nm tx:ByteArray)(wt W:Int)(w:World)(hm:m<=3)(ai:tg<256)(am:0<=W)(ao:W<=255)(hq:qb.size<=1048576)(ht:tx.size<=1048576) :
  a9 prog 160 #[.agg #[.int .i64 m,.string qb,.int .i64 tg],.agg #[.string nm,.string tx,.int .i64 wt,.int .i64 W]] w λe w'=>e=.returned (.bool (oq tg W.toNat&&jo m qb.data.toList (ed tx.data.toList)))/\Below w.heap.size w w':=by
 obtain⟨w0,aa⟩:∃w0,((w.alloc (.cells #[.int .i64 m,.string qb,.int .i64 tg] 94)).alloc (.cells #[.string nm,.string tx,.int .i64 wt,.int .i64 W] 96))=w0:=⟨_,rfl⟩;have ac:Hid (Below w.heap.size w w0):=aa▸((b5 _ _).alloc (bz _) _).alloc (by simp) _;have q0:w0.heap[w.heap.size]?=some (.cells #[.int .i64 m,.string qb,.int .i64 tg] 94):=by rw[<-aa,b6 _ _ _ (by simp)]; simp[bj,-bi]
 have q1:w0.heap[w.heap.size+1]?=some (.cells #[.string nm,.string tx,.int .i64 wt,.int .i64 W] 96):=by rw[<-aa]; simp[bj,-bi,Array.getElem_push]
 have d0:=dh q0 0;have d1:=dh q0 1;have d2:=dh q0 2;have d3:=dh q1 3;have d4:=dh q1 1;simp at d0 d1 d2 d3 d4;clear q0 q1;have HW:Hid _:=aa;clear aa;go_enter func160,ntmps160;go_wp2_with fail;rw[HW.out];clear HW;obtain⟨fb,ad⟩:∃fb,fb=jo m qb.data.toList (ed tx.data.toList):=⟨_,rfl⟩;obtain⟨kb,ae⟩:∃kb:ByteArray,kb=⟨(ed tx.data.toList).toArray⟩:=⟨_,rfl⟩
 have ah:kb.size<=1048576:=by
  rw[ae];show(ed tx.data.toList).toArray.size<=_;rw[List.size_toArray,gf]; simp; omega
 have aj:Hid (∀y:World,a9 prog 50 #[.string tx] y λe w'=>e=.returned (.string kb)/\eU y w'):=λy=>by rw[ae]; exact oU tx y (by omega)
 have ak:Hid (∀y:World,a9 prog 215 #[.int .i64 m,.string qb,.string kb] y λe w'=>e=.returned (.bool fb)/\eU y w'):=λy=>by
  have h:=Kq m qb kb y hm hq ah;have e1:kb.data.toList=ed tx.data.toList:=by rw[ae]
  rw[e1,<-ad]at h;exact h
 have U:=KQ W.toNat tg (by omega) ai;rw[show((W.toNat:Nat):Int)=W by omega]at U;clear ae ah hm hq ht;by_cases Y:W.toNat &&& tg=tg
 .have al:bits .and .i64 W (tg:Int)=(tg:Int):=by rw[U,Y]
  have ab:Hid (fb=(oq tg W.toNat&&jo m qb.data.toList (ed tx.data.toList))):=by
   show _=_;unfold oq;rw[Y,<-ad]; simp
  clear U Y ad;refine lV (by kernel_rfl) ?_;refine dI 0 ?_ ?_<|dI 1 ?_ ?_<|dI 2 ?_ ?_<|dI 3 ?_ ?_<|dI 4 ?_ ?_<|dI 5 ?_ ?_<|dI 6 ?_ ?_<|dI 7 ?_ ?_<|dI 8 ?_ ?_ ?_
  any_goals(intro y O; have q:=a4 O d3; have q1:=a4 O d2; unfold gh; go_simp; refine⟨eU.refl _,?_⟩; with_reducible rfl)
  go_simp;refine dI 9 ?_ ?_ ?_
  any_goals(intro y O; have q:=a4 O d0; have q1:=a4 O d1; have q2:=a4 O d4; unfold gh; go_simp; refine⟨eU.refl _,?_⟩; with_reducible rfl)
  go_simp;refine dI 10 ?_ ?_ ?_
  any_goals(intro y O; have q:=a4 O d0; have q1:=a4 O d1; have q2:=a4 O d4; unfold gh; go_simp; refine⟨eU.refl _,?_⟩; with_reducible rfl)
  go_simp;refine dI 11 ?_ ?_ ?_
  any_goals(intro y O; have q:=a4 O d0; have q1:=a4 O d1; have q2:=a4 O d4; unfold gh; go_simp; refine⟨eU.refl _,?_⟩; with_reducible rfl)
  go_simp;refine dI 12 ?_ ?_ ?_
  any_goals(intro y O; have q:=a4 O d0; have q1:=a4 O d1; have q2:=a4 O d4; unfold gh; go_simp; refine⟨eU.refl _,?_⟩; with_reducible rfl)
  go_simp;refine dI 13 ?_ ?_ ?_
  any_goals(intro y O; have q:=a4 O d0; have q1:=a4 O d1; have q2:=a4 O d4; unfold gh; go_simp; refine⟨eU.refl _,?_⟩; with_reducible rfl)
  go_simp;refine dI 14 ?_ ?_ ?_
  any_goals(intro y O; have q:=a4 O d0; have q1:=a4 O d1; have q2:=a4 O d4; unfold gh; go_simp; refine⟨eU.refl _,?_⟩; with_reducible rfl)
  go_simp;refine dI 15 ?_ ?_ ?_;rotate_left
  .intro y O; unfold gh; go_simp; refine⟨rfl,(aj.out y).mono ?_⟩; rintro e y2 ⟨rfl,h2⟩; refine⟨_,rfl,h2,?_⟩; with_reducible rfl
  go_simp;refine dI 16 ?_ ?_ ?_;rotate_left
  .intro y O; unfold gh; go_simp; refine⟨rfl,(ak.out y).mono ?_⟩; rintro e y2 ⟨rfl,h2⟩; refine⟨_,rfl,h2,?_⟩; with_reducible rfl
  go_simp;refine dI 17 ?_ ?_<|dI 18 ?_ ?_ ?_
  any_goals(intro y O; unfold gh; go_simp; refine⟨eU.refl _,?_⟩; with_reducible rfl)
  refine xq (by kernel_rfl) ?_ _;intro y O;have ag:Hid (Below w.heap.size w y):=ac.out.trans (Below.mono O ac.out.size);clear O;go_simp;go_wp2;go_ret;exact⟨eH ab.out,ag.out⟩
 .obtain⟨an,af⟩:∃an:Nat,an=W.toNat &&& tg:=⟨_,rfl⟩;have al:bits .and .i64 W (tg:Int)=(an:Int):=by rw[U,af]
  have aq:((an:Int)==(tg:Int))=false:=by rw[beq_eq_false_iff_ne]; rw[af]; omega
  have ap:¬an=tg:=by rw[af]; exact Y
  have ab:Hid (false=(oq tg W.toNat&&jo m qb.data.toList (ed tx.data.toList))):=by
   show _=_;unfold oq;rw[beq_eq_false_iff_ne.2 Y]; rfl
  clear U Y ad af;refine lV (by kernel_rfl) ?_;refine dI 0 ?_ ?_<|dI 1 ?_ ?_<|dI 2 ?_ ?_<|dI 3 ?_ ?_<|dI 4 ?_ ?_<|dI 5 ?_ ?_<|dI 6 ?_ ?_<|dI 7 ?_ ?_<|dI 8 ?_ ?_ ?_
  any_goals(intro y O; have q:=a4 O d3; have q1:=a4 O d2; unfold gh; go_simp; refine⟨eU.refl _,?_⟩; with_reducible rfl)
  go_simp;refine nZ 9 ?_;go_simp;refine nZ 10 ?_;go_simp;refine nZ 11 ?_;go_simp;refine nZ 12 ?_;go_simp;refine nZ 13 ?_;go_simp;refine nZ 14 ?_;go_simp;refine nZ 15 ?_;go_simp;refine nZ 16 ?_;go_simp;refine dI 17 ?_ ?_<|dI 18 ?_ ?_ ?_
  any_goals(intro y O; unfold gh; go_simp; refine⟨eU.refl _,?_⟩; with_reducible rfl)
  refine xq (by kernel_rfl) ?_ _;intro y O;have ag:Hid (Below w.heap.size w y):=ac.out.trans (Below.mono O ac.out.size);clear O;go_simp;go_wp2;go_ret;exact⟨eH ab.out,ag.out⟩
end
section
open Go.RowKit
theorem iz(w:World)(o:Obj){k:Nat}(h:k=w.heap.size):(w.alloc o).heap[k]?=some o:=by
 subst h;show(w.heap.push o)[w.heap.size]?=some o;simp
theorem fV(w:World)(o:Obj){k:Nat}(h:k<w.heap.size):(w.alloc o).heap[k]?=w.heap[k]?:=by
 exact b6 w o k h
def Az(k at':Int)(O:ByteArray)(b:Bool)(n2 tx:ByteArray)(wt U:Int):Value:=.agg #[.int .i64 k,.int .i64 at',.string O,.bool b,.string n2,.string tx,.int .i64 wt,.int .i64 U]
def MT:ByteArray:=⟨#[]⟩
theorem DZ(k at':Int)(nm:ByteArray)(g:Bool)(n2 tx:ByteArray)(wt et:Int)(m tg:Nat)(qb:ByteArray)(w:World)(hm:m<=3)(ac:tg<256)(ab:g=false->0<=et/\et<=255)(hq:qb.size<=1048576)(ht:tx.size<=1048576) :
  a9 prog 119 #[.agg #[.int .i64 k,.int .i64 at'],.string nm,.agg #[.bool g,.string n2,.string tx,.int .i64 wt,.int .i64 et],.agg #[.int .i64 m,.string qb,.int .i64 tg]] w λe w'=>
   e=.returned (if(!g&&(oq tg et.toNat&&jo m qb.data.toList (ed tx.data.toList)))=true then Az k at' nm true n2 tx wt et else Az k at' nm false MT MT 0 0)/\Below w.heap.size w w':=by
 obtain⟨b,hb⟩:∃b,b=(oq tg et.toNat&&jo m qb.data.toList (ed tx.data.toList)):=⟨_,rfl⟩
 have HC:Hid (g=false->∀y:World,a9 prog 160 #[.agg #[.int .i64 m,.string qb,.int .i64 tg],.agg #[.string n2,.string tx,.int .i64 wt,.int .i64 et]] y λe w'=>e=.returned (.bool b)/\Below y.heap.size y w'):=λhg y=>by
  rw[hb]; exact PC m tg qb n2 tx wt et y hm ac (ab hg).1 (ab hg).2 hq ht
 rw[<-hb];clear hb hm ac ab hq ht;obtain⟨w0,Y⟩:∃w0,w0=(((w.alloc (.cells #[.int .i64 k,.int .i64 at'] 170)).alloc (.cells #[.bool g,.string n2,.string tx,.int .i64 wt,.int .i64 et] 111)).alloc (.cells #[.int .i64 m,.string qb,.int .i64 tg] 94)).alloc (.cells #[.int .i64 0,.int .i64 0,.string ⟨#[]⟩,.bool false,.string ⟨#[]⟩,.string ⟨#[]⟩,.int .i64 0,.int .i64 0] 172):=⟨_,rfl⟩;have hz:w0.heap.size=w.heap.size+4:=by rw[Y]; simp
 have hB:Below w.heap.size w w0:=by rw[Y]; exact((((b5 _ _).alloc (bz _) _).alloc (by simp) _).alloc (by simp; omega) _).alloc (by simp; omega) _
 have g0:w0.heap[w.heap.size]?=some (.cells #[.int .i64 k,.int .i64 at'] 170 (0,0)):=by rw[Y]; (repeat(first|(rw[iz _ _ (by simp only[bg])]; done)|rw[fV _ _ (by simp only[bg]; omega)]))
 have g1:w0.heap[w.heap.size+1]?=some (.cells #[.bool g,.string n2,.string tx,.int .i64 wt,.int .i64 et] 111 (0,0)):=by rw[Y]; (repeat(first|(rw[iz _ _ (by simp only[bg])]; done)|rw[fV _ _ (by simp only[bg]; omega)]))
 have g2:w0.heap[w.heap.size+1+1]?=some (.cells #[.int .i64 m,.string qb,.int .i64 tg] 94 (0,0)):=by rw[Y]; (repeat(first|(rw[iz _ _ (by simp only[bg])]; done)|rw[fV _ _ (by simp only[bg]; omega)]))
 have g3:w0.heap[w.heap.size+1+1+1]?=some (.cells #[.int .i64 0,.int .i64 0,.string ⟨#[]⟩,.bool false,.string ⟨#[]⟩,.string ⟨#[]⟩,.int .i64 0,.int .i64 0] 172 (0,0)):=by rw[Y]; (repeat(first|(rw[iz _ _ (by simp only[bg])]; done)|rw[fV _ _ (by simp only[bg]; omega)]))
 go_enter func119,ntmps119;go_upto_region 1 with fail;rw[<-Y];obtain⟨B0,ad⟩:∃B,B=w.heap.size:=⟨_,rfl⟩;obtain⟨W,ae⟩:∃B,B=w.heap.size+1+1+1:=⟨_,rfl⟩;obtain⟨B2,af⟩:∃B,B=w.heap.size+1+1:=⟨_,rfl⟩;obtain⟨B1,ag⟩:∃B,B=w.heap.size+1:=⟨_,rfl⟩;rw[<-ae]at g3⊢;rw[<-af]at g2⊢;rw[<-ag]at g1⊢;rw[<-ad]at g0⊢;have HB:Hid (Below _ _ _):=hB;have HN:Hid (B0<w0.heap.size/\B1<w0.heap.size/\B2<w0.heap.size/\W<w0.heap.size/\w.heap.size<=W):=⟨by omega,by omega,by omega,by omega,by omega⟩;clear Y hB ad ag af ae hz;cases g
 .have c0:w0.cell? ⟨B1,0,none⟩=some (.bool false):=by rw[dh g1]; rfl
  have c1:w0.cell? ⟨B1,1,none⟩=some (.string n2):=by rw[dh g1]; rfl
  have c2:w0.cell? ⟨B1,2,none⟩=some (.string tx):=by rw[dh g1]; rfl
  have c3:w0.cell? ⟨B1,3,none⟩=some (.int .i64 wt):=by rw[dh g1]; rfl
  have c4:w0.cell? ⟨B1,4,none⟩=some (.int .i64 et):=by rw[dh g1]; rfl
  have c5:w0.cell? ⟨B2,0,none⟩=some (.int .i64 m):=by rw[dh g2]; rfl
  have c6:w0.cell? ⟨B2,1,none⟩=some (.string qb):=by rw[dh g2]; rfl
  have c7:w0.cell? ⟨B2,2,none⟩=some (.int .i64 tg):=by rw[dh g2]; rfl
  go_upto_if 17 with(go_at_call 160; refine(HC.out rfl _).mono ?_; rintro e y ⟨rfl,hy⟩);have ah:=(hy.block B0 HN.out.1).trans g0;have aa:=(hy.block B1 HN.out.2.1).trans g1;have U:=(hy.block W HN.out.2.2.2.1).trans g3;have HY:Hid (Below w.heap.size w y):=HB.out.trans (Below.mono hy HB.out.size);clear c0 c1 c2 c3 c4 c5 c6 c7 hy HC g0 g1 g2 g3 HB;have c0:y.cell? ⟨B0,0,none⟩=some (.int .i64 k):=by rw[dh ah]; rfl
  have c1:y.cell? ⟨B0,1,none⟩=some (.int .i64 at'):=by rw[dh ah]; rfl
  have c2:y.cell? ⟨B1,1,none⟩=some (.string n2):=by rw[dh aa]; rfl
  have c3:y.cell? ⟨B1,2,none⟩=some (.string tx):=by rw[dh aa]; rfl
  have c4:y.cell? ⟨B1,3,none⟩=some (.int .i64 wt):=by rw[dh aa]; rfl
  have c5:y.cell? ⟨B1,4,none⟩=some (.int .i64 et):=by rw[dh aa]; rfl
  have ai:=dK U;have jQ:=dh U;have e0:y.cell? ⟨W,0,none⟩=some (.int .i64 0):=by rw[dh U]; rfl
  have e1:y.cell? ⟨W,1,none⟩=some (.int .i64 0):=by rw[dh U]; rfl
  have e2:y.cell? ⟨W,2,none⟩=some (.string ⟨#[]⟩):=by rw[dh U]; rfl
  have e3:y.cell? ⟨W,3,none⟩=some (.bool false):=by rw[dh U]; rfl
  have e4:y.cell? ⟨W,4,none⟩=some (.string ⟨#[]⟩):=by rw[dh U]; rfl
  have e5:y.cell? ⟨W,5,none⟩=some (.string ⟨#[]⟩):=by rw[dh U]; rfl
  have e6:y.cell? ⟨W,6,none⟩=some (.int .i64 0):=by rw[dh U]; rfl
  have e7:y.cell? ⟨W,7,none⟩=some (.int .i64 0):=by rw[dh U]; rfl
  have O:=HN.out.2.2.2.2;cases b
  .go_wp2;refine aJ (v:=Az k at' nm false MT MT 0 0) (by simp[aL,results119,go_sem,e0,e1,e2,e3,e4,e5,e6,e7,Az,MT]) rfl ⟨rfl,((((((((HY.out.setCell O _).setCell O _).setCell O _).setCell O _).setCell O _).setCell O _).setCell O _).setCell O _)⟩
  .go_wp2;refine aJ (v:=Az k at' nm true n2 tx wt et) (by simp[aL,results119,go_sem,e0,e1,e2,e3,e4,e5,e6,e7,Az,MT]) rfl ⟨rfl,((((((((HY.out.setCell O _).setCell O _).setCell O _).setCell O _).setCell O _).setCell O _).setCell O _).setCell O _)⟩
 .have c0:w0.cell? ⟨B0,0,none⟩=some (.int .i64 k):=by rw[dh g0]; rfl
  have c1:w0.cell? ⟨B0,1,none⟩=some (.int .i64 at'):=by rw[dh g0]; rfl
  have c2:w0.cell? ⟨B1,0,none⟩=some (.bool true):=by rw[dh g1]; rfl
  have ai:=dK g3;have jQ:=dh g3;have e0:w0.cell? ⟨W,0,none⟩=some (.int .i64 0):=by rw[dh g3]; rfl
  have e1:w0.cell? ⟨W,1,none⟩=some (.int .i64 0):=by rw[dh g3]; rfl
  have e2:w0.cell? ⟨W,2,none⟩=some (.string ⟨#[]⟩):=by rw[dh g3]; rfl
  have e3:w0.cell? ⟨W,3,none⟩=some (.bool false):=by rw[dh g3]; rfl
  have e4:w0.cell? ⟨W,4,none⟩=some (.string ⟨#[]⟩):=by rw[dh g3]; rfl
  have e5:w0.cell? ⟨W,5,none⟩=some (.string ⟨#[]⟩):=by rw[dh g3]; rfl
  have e6:w0.cell? ⟨W,6,none⟩=some (.int .i64 0):=by rw[dh g3]; rfl
  have e7:w0.cell? ⟨W,7,none⟩=some (.int .i64 0):=by rw[dh g3]; rfl
  have O:=HN.out.2.2.2.2;clear HC;go_wp2;refine aJ (v:=Az k at' nm false MT MT 0 0) (by simp[aL,results119,go_sem,e0,e1,e2,e3,e4,e5,e6,e7,Az,MT]) rfl ⟨rfl,((((((((HB.out.setCell O _).setCell O _).setCell O _).setCell O _).setCell O _).setCell O _).setCell O _).setCell O _)⟩
end
section
open Go.Conc
def oS:Item->Item
 |.code y=>.code (Bc y)
 |.inLoop y=>.inLoop (Bc y)
 |x=>x
def jL:Item->Bool
 |.code _|.inLoop _|.inBlock _=>true
 |_=>false
theorem Oy{m:Ren}:∀{k:List Item},k.all jL=true->dO (jz m) (k.map oS) k
 |[],_=>.nil
 |x::k,h=>by
  simp only[bs,bo]at h;refine .cons ?_ (Oy h.2);cases x<;>first|exact .EB _|exact .ma _|exact .inBlock _|(simp[jL]at h)
theorem Gg{m:Ren}:∀{k k':List Item},k.all jL=true->dO (jz m) (k.map oS) k'->k'=k
 |[],_,_,h=>by cases h; rfl
 |x::k,_,W,h=>by
  simp only[bs,bo]at W
  cases h with
  |cons hi Y=>
   rw[Gg W.2 Y]
   cases x with
   |code y=>
    simp only[oS]at hi;generalize O:Item.code _=z at hi
    cases hi with
    |EB y'=>simp only[Bc,Item.code.injEq,Code.cond.injEq]at O; rw[O.2.1]
    |code c U=>simp only[Item.code.injEq]at O; rw[<-O]at U; exact U.1.elim
    |_=>cases O
   |inLoop y=>
    simp only[oS]at hi;generalize O:Item.inLoop _=z at hi
    cases hi with
    |ma y'=>simp only[Bc,Item.inLoop.injEq,Code.cond.injEq]at O; rw[O.2.1]
    |inLoop c U=>simp only[Item.inLoop.injEq]at O; rw[<-O]at U; exact U.1.elim
    |_=>cases O
   |inBlock i=>
    cases hi;rfl
   |_=>simp[jL]at W
theorem qO(id:Nat):∀(k:List Item),aI id (k.map oS)=(aI id k).map (·.map oS)
 |[]=>rfl
 |x::k=>by
  cases x with
  |inBlock i=>
   simp only[List.map_cons,oS];unfold aI;split
   .rfl
   .exact qO id k
  |_=>exact qO id k
theorem exitTo_plain{id:Nat}:∀{k k':List Item},k.all jL=true->aI id k=some k'->k'.all jL=true
 |[],_,_,e=>by cases e
 |x::k,k',O,e=>by
  simp only[bs,bo]at O
  cases x with
  |inBlock i=>
   unfold aI at e;split at e
   .cases e; exact O.2
   .exact exitTo_plain O.2 e
  |_=>exact exitTo_plain O.2 e
section
variable {P:Program} {E:Env P} {fn:a8} {tm:Array Value} {os:List OF} {wl:World} {V:List (Nat×Option (List Value))} {k:List Item}
theorem iO.Sv{S:LS}(hk:k.all jL=true)(hf:uW E os)(aa:S.cs=[door P])(ab:S.fr=fN fn tm (k.map oS))(h:dn E (⟨fn,tm,k⟩::os) S.w V):iO E S os V:=by
 intro m Pd ρ gs w sl t fr' cs' Tc ac ad ae O U h0;have hF:=U.pS;rw[aa]at U;have W:=tk hf O
 obtain⟨rfl,Y⟩:cs'=Tc/\fr'.kind=.normal:=by
  cases U with
  |one _ _ hb _=>
   refine⟨rfl,?_⟩;rcases hb with⟨x,_⟩|⟨_,ps,e,x⟩
   .exact x
   .exact absurd x (W ps e)
  |cons _ _ _ hx=>cases hx
 rw[ab]at hF;obtain⟨f1,f2,f3,f4,f5,f6⟩:=hF;obtain⟨af,ag,ah,ai,aj,ak,al⟩:=fr';have:=Gg hk f3;subst this f1 Y;cases f4;cases f5;cases f6;exact h m Pd ρ gs w sl t _ _ ac ad ae (.cons (o:=⟨_,tm,_⟩) f2 O) h0
theorem dn.code{c:Code}{Q:Exit->Act->World->Prop}(ag:fD E.ok c)(hk:k.all jL=true)(hf:uW E os)(h:∀τ,Ak τ wl->c.wp P Q ⟨tm,[]⟩ (tp wl τ))
  (hn:∀e a w',Q e a w'->a.defers=[]/\∃k',((e=.normal/\k'=k)\/∃id,e=.exit id/\aI id k=some k')/\dn E (⟨fn,a.tmps,k'⟩::os) w' V):dn E (⟨fn,tm,.code c::k⟩::os) wl V:=by
 have hS:iO E ⟨fN fn tm (.code c::k.map oS),[door P],wl⟩ os V:=by
  let W:LS->Prop:=λS=>S.cs=[door P]/\∃Y k',k'.all jL=true/\S.fr=fN fn Y (k'.map oS)/\dn E (⟨fn,Y,k'⟩::os) S.w V;refine iO.mZ (Stop:=λS=>∃τ,W (S.on τ)) (λS τ ⟨O,h⟩=>⟨O,h⟩) (λO ac=>?_) λS' ⟨O,hc,Y,k',h1,h2,h3⟩=>?_
  .obtain⟨e,a,w',hq,U⟩:=h O ac (fN fn #[] []) (k.map oS) [door P];obtain⟨hd,k',ah,hW⟩:=hn e a w' hq;obtain⟨aa,am⟩:=a;subst hd
   have ab:Steps P (aM (fN fn tm (.code c::k.map oS)) [door P] (tp wl O)) (aM (fN fn aa (k'.map oS)) [door P] w')/\k'.all jL=true:=by
    rcases ah with⟨rfl,rfl⟩|⟨id,rfl,he⟩
    .exact⟨U,hk⟩
    .exact⟨U _ (by rw[qO,he]; rfl),exitTo_plain hk he⟩
   obtain⟨⟨n,ab⟩,ai⟩:=ab;exact⟨n,⟨fN fn aa _,[door P],w'⟩,ab,⟨w'.tape,rfl,aa,k',ai,rfl,hW⟩,by simp⟩
  .exact iO.tape (τ:=O) (iO.Sv h1 hf hc h2 h3)
 intro m Pd ρ gs w sl t fr' cs' ad aj ak ae h0;obtain⟨al,l',e,ht,af⟩:=ae.head;cases e;exact hS m Pd ρ gs w sl t _ _ cs' ad aj ak af (dR.one (fr:=fN fn tm _) (fr':=fN fn al _) ⟨rfl,ht,.cons (.code c (by rw[ad.RO]; exact ag)) (Oy hk),.nil,.run,.none⟩ rfl (.inl ⟨rfl,tk hf af⟩) rfl) h0
end
end
namespace D
open Go.RowKit Go.Sort
theorem Ou{w y:World}(h:eU w y):∃q os,y=grow (w.drewN q) os:=by
 obtain⟨⟨O,U,W,h4,Y⟩,h6⟩:=h;refine⟨y.drawn-w.drawn,y.heap.extract w.heap.size y.heap.size,?_⟩;obtain⟨yh,yt,yd,yo,yu⟩:=y;obtain⟨wh,wt,wd,wo,wu⟩:=w;simp only at O U W h4 Y h6;subst O U W;unfold grow World.drewN;simp only[World.mk.injEq,and_true,true_and];constructor
 .apply be;intro i;by_cases hi:i<wh.size
  .rw[ba hi];exact Y i hi
  .rw[Array.getElem?_append_right (by omega),Array.getElem?_extract];by_cases h:i<yh.size
   .rw[if_pos (by omega)];congr 1;omega
   .rw[if_neg (by omega)];exact aX (by omega)
 .omega
def CV(x y:Int):Int:=if x<y then -1 else if y<x then 1 else 0
theorem Hf(x y:Int)(w:World):a9 prog 127 #[.int .i64 x,.int .i64 y] w λe w'=>e=.returned (.int .i64 (CV x y))/\w=w':=by
 unfold CV;by_cases O:x<y
 .go_wp2;go_ret;exact⟨rfl,rfl⟩
 .by_cases U:y<x
  .go_wp2;go_ret;exact⟨rfl,rfl⟩
  .go_wp2;go_ret;exact⟨rfl,rfl⟩
theorem PV(x y z:Int)(g:Nat)(w:World)(h0:w.cell? ⟨g,0,none⟩=some (.int .i64 x))(h1:w.cell? ⟨g,1,none⟩=some (.int .i64 y))(h2:w.cell? ⟨g,2,none⟩=some (.int .i64 z)):a9 prog 126 #[.slice (some ⟨g,0,none⟩) 3 3] w λe w'=>e=.returned (.int .i64 (if x≠0 then x else if y≠0 then y else z))/\w=w':=by
 by_cases O:x=0
 .subst O;rw[if_neg (by simp)];by_cases U:y=0
  .subst U;rw[if_neg (by simp)];by_cases W:z=0
   .subst W;go_enter func126,ntmps126;go_wp2;refine aA 4 ?_;rw[a6];go_wp2;rw[a6];go_wp2;rw[a6];go_wp2;rw[a6];go_wp2;go_ret;exact⟨rfl,rfl⟩
   .have Y:(z==0)=false:=by simpa using W
    go_enter func126,ntmps126;go_wp2;refine aA 3 ?_;rw[a6];go_wp2;rw[a6];go_wp2;rw[a6];go_wp2;go_ret;exact⟨rfl,rfl⟩
  .have aa:(y==0)=false:=by simpa using U
   rw[if_pos U];go_enter func126,ntmps126;go_wp2;refine aA 2 ?_;rw[a6];go_wp2;rw[a6];go_wp2;go_ret;exact⟨rfl,rfl⟩
 .rw[if_pos O];have ab:(x==0)=false:=by simpa using O
  go_enter func126,ntmps126;go_wp2;refine aA 1 ?_;rw[a6];go_wp2;go_ret;exact⟨rfl,rfl⟩
theorem T3{w:World}{x y z:Value}{t:aC}{g:Nat}(O:g=w.heap.size):((w.alloc (.cells #[x,y,z] t)).cell? ⟨g,0,none⟩=some x/\(w.alloc (.cells #[x,y,z] t)).cell? ⟨g,1,none⟩=some y)/\(w.alloc (.cells #[x,y,z] t)).cell? ⟨g,2,none⟩=some z:=by
 subst O;refine⟨⟨?_,?_⟩,?_⟩<;>rw[bh _ _ _ _ rfl]<;>rfl
def TQ(x y:dq):Int:=if CV y.du x.du≠0 then CV y.du x.du else if rQ (dF x) (dF y)≠0 then rQ (dF x) (dF y)else rQ x.name y.name
theorem Gn(x y:dq)(w:World)(hx:x.text.length<=1048576)(O:y.text.length<=1048576):a9 prog 84 #[.agg #[.string ⟨x.name.toArray⟩,.string ⟨x.text.toArray⟩,.int .i64 x.du,.int .i64 x.dD],.agg #[.string ⟨y.name.toArray⟩,.string ⟨y.text.toArray⟩,.int .i64 y.du,.int .i64 y.dD]] w λe w'=>e=.returned (.int .i64 (TQ x y))/\eU w w':=by
 obtain⟨z1,ab⟩:∃z,z=CV y.du x.du:=⟨_,rfl⟩;obtain⟨z2,ac⟩:∃z,z=rQ (dF x) (dF y):=⟨_,rfl⟩;obtain⟨z3,ad⟩:∃z,z=rQ x.name y.name:=⟨_,rfl⟩;obtain⟨wT,U⟩:∃wT,wT=if z1≠0 then z1 else if z2≠0 then z2 else z3:=⟨_,rfl⟩
 have e:TQ x y=wT:=by rw[U,ab,ac,ad]; rfl
 rw[e];clear e;obtain⟨kx,ae⟩:∃k,k=dF x:=⟨_,rfl⟩;obtain⟨ky,af⟩:∃k,k=dF y:=⟨_,rfl⟩;have H1:Hid (∀W,a9 prog 127 #[.int .i64 y.du,.int .i64 x.du] W λe w'=>e=.returned (.int .i64 z1)/\W=w'):=λW=>by rw[ab]; exact Hf _ _ W
 have H2:Hid (∀W,a9 prog 128 #[.string ⟨kx.toArray⟩,.string ⟨ky.toArray⟩] W λe w'=>e=.returned (.int .i64 z2)/\W=w'):=λW=>by rw[ac,<-ae,<-af]; exact pL _ _ W
 have H3:Hid (∀W,a9 prog 128 #[.string ⟨x.name.toArray⟩,.string ⟨y.name.toArray⟩] W λe w'=>e=.returned (.int .i64 z3)/\W=w'):=λW=>by rw[ad]; exact pL _ _ W
 have HX:Hid (∀W,a9 prog 50 #[.string ⟨x.text.toArray⟩] W λe w'=>e=.returned (.string ⟨kx.toArray⟩)/\eU W w'):=λW=>by
  have h:=sM ⟨x.text.toArray⟩ W (by show x.text.toArray.size<=_; simp; omega);rw[ae];exact h
 have HY:Hid (∀W,a9 prog 50 #[.string ⟨y.text.toArray⟩] W λe w'=>e=.returned (.string ⟨ky.toArray⟩)/\eU W w'):=λW=>by
  have h:=sM ⟨y.text.toArray⟩ W (by show y.text.toArray.size<=_; simp; omega);rw[af];exact h
 have HO:Hid (∀(g:Nat)(W:World),W.cell? ⟨g,0,none⟩=some (.int .i64 z1)->W.cell? ⟨g,1,none⟩=some (.int .i64 z2)->W.cell? ⟨g,2,none⟩=some (.int .i64 z3)->a9 prog 126 #[.slice (some ⟨g,0,none⟩) 3 3] W λe w'=>e=.returned (.int .i64 wT)/\W=w'):=λg W k0 k1 k2=>by
  rw[U];exact PV z1 z2 z3 g W k0 k1 k2
 clear U ab ac ad ae af hx O;obtain⟨nx,_,tx,wx,gx⟩:=x;obtain⟨ny,_,ty,wy,gy⟩:=y;simp only at H1 H3 HX HY⊢;obtain⟨w0,Y⟩:∃w0,w0=(w.alloc (.cells #[.string ⟨nx.toArray⟩,.string ⟨tx.toArray⟩,.int .i64 wx,.int .i64 gx] 96)).alloc (.cells #[.string ⟨ny.toArray⟩,.string ⟨ty.toArray⟩,.int .i64 wy,.int .i64 gy] 96):=⟨_,rfl⟩
 have hA:∀j,w0.cell? ⟨w.heap.size,j,none⟩=(#[Value.string ⟨nx.toArray⟩,.string ⟨tx.toArray⟩,.int .i64 wx,.int .i64 gx]:Array Value)[j]?:=λj=>by
  rw[Y,World.cell?_alloc_past _ _ _ (by simp),bh _ _ _ _ rfl]
 have aa:∀j,w0.cell? ⟨w.heap.size+1,j,none⟩=(#[Value.string ⟨ny.toArray⟩,.string ⟨ty.toArray⟩,.int .i64 wy,.int .i64 gy]:Array Value)[j]?:=λj=>by
  rw[Y,bh _ _ _ _ (by simp)]
 have ag:Hid (eU w w0):=by rw[Y]; exact(eU.alloc _ _).trans (eU.alloc _ _)
 have a0:w0.cell? ⟨w.heap.size,0,none⟩=some (.string ⟨nx.toArray⟩):=hA 0;have a1:w0.cell? ⟨w.heap.size,1,none⟩=some (.string ⟨tx.toArray⟩):=hA 1;have a2:w0.cell? ⟨w.heap.size,2,none⟩=some (.int .i64 wx):=hA 2;have b0:w0.cell? ⟨w.heap.size+1,0,none⟩=some (.string ⟨ny.toArray⟩):=aa 0;have b1:w0.cell? ⟨w.heap.size+1,1,none⟩=some (.string ⟨ty.toArray⟩):=aa 1;have b2:w0.cell? ⟨w.heap.size+1,2,none⟩=some (.int .i64 wy):=aa 2;clear hA aa;go_enter func84,ntmps84;go_wp2_with fail;rw[<-Y];clear Y;refine lV (by kernel_rfl) ?_;refine dI 0 ?_ ?_<|dI 1 ?_ ?_<|dI 2 ?_ ?_<|dI 3 ?_ ?_ ?_
 any_goals(intro y O; have q:=a4 O.1 b2; have q1:=a4 O.1 a2; unfold gh; go_simp; refine⟨eU.refl _,?_⟩; with_reducible rfl)
 go_simp;refine dI 4 ?_ ?_ ?_;rotate_left
 .intro y O; unfold gh; go_simp; refine⟨rfl,(H1.out y).mono ?_⟩; rintro e y2 ⟨rfl,rfl⟩; refine⟨_,rfl,eU.refl _,?_⟩; with_reducible rfl
 refine dI 5 ?_ ?_<|dI 6 ?_ ?_ ?_
 any_goals(intro y O; have q:=a4 O.1 a1; unfold gh; go_simp; refine⟨eU.refl _,?_⟩; with_reducible rfl)
 go_simp;refine dI 7 ?_ ?_ ?_;rotate_left
 .intro y O; unfold gh; go_simp; refine⟨rfl,(HX.out y).mono ?_⟩; rintro e y2 ⟨rfl,h2⟩; refine⟨_,rfl,h2,?_⟩; with_reducible rfl
 refine dI 8 ?_ ?_<|dI 9 ?_ ?_ ?_
 any_goals(intro y O; have q:=a4 O.1 b1; unfold gh; go_simp; refine⟨eU.refl _,?_⟩; with_reducible rfl)
 go_simp;refine dI 10 ?_ ?_ ?_;rotate_left
 .intro y O; unfold gh; go_simp; refine⟨rfl,(HY.out y).mono ?_⟩; rintro e y2 ⟨rfl,h2⟩; refine⟨_,rfl,h2,?_⟩; with_reducible rfl
 go_simp;refine dI 11 ?_ ?_ ?_;rotate_left
 .intro y O; unfold gh; go_simp; refine⟨rfl,(H2.out y).mono ?_⟩; rintro e y2 ⟨rfl,rfl⟩; refine⟨_,rfl,eU.refl _,?_⟩; with_reducible rfl
 refine dI 12 ?_ ?_<|dI 13 ?_ ?_<|dI 14 ?_ ?_<|dI 15 ?_ ?_ ?_
 any_goals(intro y O; have q:=a4 O.1 a0; have q1:=a4 O.1 b0; unfold gh; go_simp; refine⟨eU.refl _,?_⟩; with_reducible rfl)
 go_simp;refine dI 16 ?_ ?_ ?_;rotate_left
 .intro y O; unfold gh; go_simp; refine⟨rfl,(H3.out y).mono ?_⟩; rintro e y2 ⟨rfl,rfl⟩; refine⟨_,rfl,eU.refl _,?_⟩; with_reducible rfl
 go_simp;refine S6 (rs:=[17]) (by kernel_rfl) (by simp) ?_;intro i hi;simp only[List.mem_singleton]at hi;subst hi;refine Q' (λg=>.slice (some ⟨g,0,none⟩) 3 3) (λg y=>(y.cell? ⟨g,0,none⟩=some (.int .i64 z1)/\y.cell? ⟨g,1,none⟩=some (.int .i64 z2))/\y.cell? ⟨g,2,none⟩=some (.int .i64 z3)) rfl (kw _) (λg=>((gr _ _).and (gr _ _)).and (gr _ _)) (by rfl) ?_ ?_
 .intro y O; unfold gh; go_simp; exact⟨eU.alloc _ _,rfl,T3 rfl⟩
 intro g;go_simp;refine dI 18 ?_ ?_ ?_ (hC:=((kw _).and (((gr _ _).and (gr _ _)).and (gr _ _))));rotate_left
 .intro y O; obtain⟨_,⟨k0,k1⟩,k2⟩:=O; unfold gh; go_simp; refine⟨rfl,(HO.out _ y k0 k1 k2).mono ?_⟩; rintro e y2 ⟨rfl,rfl⟩; refine⟨_,rfl,eU.refl _,?_⟩; with_reducible rfl
 go_simp;refine dI 19 ?_ ?_ ?_ (hC:=((kw _).and (((gr _ _).and (gr _ _)).and (gr _ _))));rotate_left
 .intro y O; unfold gh; go_simp; refine⟨eU.refl _,?_⟩; with_reducible rfl
 refine xq (by kernel_rfl) ?_ _;rintro y ⟨O,_⟩;have ah:Hid (eU w y):=eU.trans ag.out O;clear O;go_simp;go_wp2;go_ret;exact⟨rfl,ah.out⟩
end D
end Go.Proofs.YtocbogeoffeolaaGreatDoor
