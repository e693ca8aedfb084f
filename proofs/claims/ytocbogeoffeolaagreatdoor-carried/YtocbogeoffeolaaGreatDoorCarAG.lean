import Derived.Test.YtocbogeoffeolaaGreatDoorCarAD
import Derived.Test.YtocbogeoffeolaaGreatDoorCarAF
set_option linter.all false
set_option maxHeartbeats 8000000
set_option maxRecDepth 1000000
open Go renaming cell_later->a4,yielded->a6,rounds_succ->a7,execOp->a8,FuncId->a9,Calls->aA,wp_loop_rounds->aB,ready_mono->aC,TypeId->aD,stepG->aE,getD_set_ne->aF,wanted_put->aG,execOp_put->aH,step_lone_go->aI,exitTo->aJ,bodyPost_ret->aK,seen->aL,results->aM,lone->aN,callDeferred->aO
open Go.Region renaming wanted->aP,ready->aQ,binds->aR,noSelect_spec->aS,free_spec->aT,noSelect->aU,free->aV,schedule->aW
open Array renaming replicate->aX,getElem?_eq_none->aY,getElem?_eq_some_iff->aZ,getD_eq_getD_getElem?->ba,getElem?_append_left->bc,setIfInBounds_comm->bd,mem_toList_iff->be,ext_getElem?->bf,empty_append->bg
open Go.World renaming size_alloc->bh,cell?_alloc_at->bi,alloc_eq->bj,alloc->bk
open Go.stepG renaming apply->bl,exec->bm,oper->bn
open Bool renaming false_eq_true->bo,and_eq_true->bp,true_or->bq
open List renaming not_mem_nil->br,mem_cons->bs,all_cons->bt,all_eq_true->bu,mem_filter->bv,mem_map->bw,range->bx
open Go.Region.linearise renaming go->bz
open Nat renaming le_refl->b3,lt_or_ge->b4,zero_le->b5
open Go.RowKit.Below renaming refl->b6,heap_alloc->b7,trans->b8,size->b9
open Go.Frame renaming enter->b',finish_at->bA,finish->bB,oper?->bC,eval->bD
open Go.GStep renaming after->bE
open Option renaming getD_some->bF,bind_some->bG,map_some->bH
open Go.Instr renaming loadAt->bI
open Go renaming undef->bJ
namespace Go.Proofs.YtocbogeoffeolaaGreatDoor
open Go.Proofs.Tryz
section
open Go.RowKit
variable {K:(World->Prop)->Act->Prop} {a:Act} {listed:Array Bool} {fuel i id:Nat} {o oi:Oper} {v:Value} {b c w:World} {C:World->Prop}
def eK(y O:World):Prop:=Below y.heap.size y O
def eK.refl(y:World):eK y y:=b6 ..
def eK.trans{a:World}(h:eK a b)(y:eK b c):eK a c:=b8 h (Below.mono y (b9 h))
def eK.alloc(y:World)(o:Obj):eK y (y.alloc o):=(b6 ..).alloc (b3 _) o
def D.eK(y O:World):Prop:=Below y.heap.size y O/\y.drawn<=O.drawn
def D.eK.refl(y:World):D.eK y y:=⟨b6 ..,b3 _⟩
def D.eK.trans{a:World}(h:D.eK a b)(y:D.eK b c):D.eK a c:=⟨b8 h.1 (Below.mono y.1 (b9 h.1)),Nat.le_trans h.2 y.2⟩
def D.eK.alloc(y:World)(o:Obj):D.eK y (y.alloc o):=⟨(b6 ..).alloc (b3 _) o,b3 _⟩
def gM(R:World->World->Prop)(C:World->Prop):Prop:=∀y O,C y->R y O->C O
def eY(w:World):gM eK (eK w):=λ_ _ h y=>h.trans y
def D.eY(w:World):gM D.eK (D.eK w):=λ_ _ h y=>h.trans y
def gM.and{R:World->World->Prop}{D:World->Prop}(h:gM R C)(Y:gM R D):gM R (λy=>C y/\D y):=λy O U W=>⟨h y O U.1 W,Y y O U.2 W⟩
section
variable {R:World->World->Prop} {P:Program} {ops:Array Oper} {md:Region.Mode} {Q:Exit->Act->World->Prop}
def iG(P:Program)(w:World)(B:Value->World->Prop):Result Go.Next->Prop
 |.ok (.value u) w'=>B u w'|.ok .skip w'=>B bJ w'|.ok (.enter f args) w'=>w'=w/\aA P f args w (λe y=>∃v,e=.returned v/\B v y)|_=>False
def fT(P:Program)(o:Oper)(a:Act)(w:World)(B:Value->World->Prop):Prop:=iG P w B ((a8 a.eval o).run P w)
def iG.mono{B y:Value->World->Prop}(h:∀v w,B v w->y v w):∀{r:Result Go.Next},iG P w B r->iG P w y r:=by
 intro r hh
 cases r with
 |ok n w'=>
  cases n<;>simp only[iG]at hh⊢
  case value u=>exact h _ _ hh
  case skip=>exact h _ _ hh
  case enter f args=>exact⟨hh.1,hh.2.mono λe w'' ⟨v,he,hb⟩=>⟨v,he,h _ _ hb⟩⟩
 |halt x w'=>simp only[iG]at hh
def KJ(R:World->World->Prop)(P:Program)(ops:Array Oper)(i:Nat)(C:World->Prop)(K:(World->Prop)->Act->Prop)(a:Act):Prop:=
 match ops[i]? with
 |none=>K C a|some o=>if aP o (a6 ops a.tmps)=true then
   ∃(X:Type)(O:X->World->Prop)(U:X->Value),(∀x,gM R (O x))/\(∀x y,O x y->C y)/\(∀y,C y->fT P o a y (λv W=>R y W/\∃x,v=U x/\O x W))/\∀x,K (O x) (a.put o.dst (U x))
  else K C (a.put o.dst bJ)
def OC{K':(World->Prop)->Act->Prop}(h:∀C a,K C a->K' C a)(y:KJ R P ops i C K a):KJ R P ops i C K' a:=by
 unfold KJ at *;split;rename_i O;simp only[O]at y;exact h _ _ y;rename_i o O;simp only[O]at y;split
 rename_i U;simp only[U,if_true]at y;obtain⟨X,W,Y,h1,h2,h3,h4⟩:=y;exact⟨X,W,Y,h1,h2,h3,λx=>h _ _ (h4 x)⟩;rename_i U;simp only[U]at y;exact h _ _ y
def WX(R:World->World->Prop)(P:Program)(md:Region.Mode)(ops:Array Oper)(Q:Exit->Act->World->Prop):Nat->Array Bool->(World->Prop)->Act->Prop
 |0,listed,C,a=>aQ md ops listed=[]/\∀y,C y->Q .normal a y|fuel+1,listed,C,a=>
  (aQ md ops listed=[]->∀y,C y->Q .normal a y)/\
  ∀i∈aQ md ops listed,KJ R P ops i C (λO U=>WX R P md ops Q fuel (listed.setIfInBounds i true) O U) a
def F8{K':Act->World->Prop}(hC:C w)(h:∀C a w,C w->K C a->K' a w)(hh:KJ R P ops i C K a):wpOp P ops Q i K' a w:=by
 unfold KJ at hh;unfold wpOp;split;rename_i O;simp only[O]at hh;exact h _ _ _ hC hh;rename_i o O;simp only[O]at hh;split
 .rename_i U;simp only[U,if_true]at hh;obtain⟨X,Cx,vx,_,_,Y,W⟩:=hh;have h5:=Y w hC;refine .inl ?_;unfold fT at h5;unfold Oper.wp;generalize (a8 _ o).run P w=r at *
  cases r with
  |ok n w'=>
   cases n<;>simp only[iG]at h5<;>simp only[Oper.upon]
   case value u=>
    obtain⟨_,x,rfl,y⟩:=h5;exact h _ _ _ y (W x)
   case skip=>
    obtain⟨_,x,e,y⟩:=h5;rw[e];exact h _ _ _ y (W x)
   case enter f args=>
    obtain⟨e1,hc⟩:=h5;rw[e1];refine hc.mono λe aa he=>?_;obtain⟨v,rfl,_,x,rfl,y⟩:=he;exact h _ _ _ y (W x)
  |halt x w'=>simp only[iG]at h5
 rename_i U;simp only[U]at hh;exact h _ _ _ hC hh
def xa:∀(fuel:Nat)(listed:Array Bool)(C:World->Prop)(a:Act)(w:World),C w->WX R P md ops Q fuel listed C a->wpAny P md ops Q fuel listed a w
 |0,_,_,_,w,y,h=>⟨h.1,h.2 w y⟩
 |fuel+1,_,_,_,w,y,h=>⟨λU=>h.1 U w y,λi hi=>F8 y (λW Y w' O h'=>xa fuel _ W Y w' O h') (h.2 i hi)⟩
def gw(R:World->World->Prop)(P:Program)(ops:Array Oper)(C:World->Prop)(o:Oper)(v:Value)(a:Act):Prop:=
 (aP o (a6 ops a.tmps)=true/\∀y,C y->fT P o a y (λu O=>R y O/\u=v))\/
 (aP o (a6 ops a.tmps)=false/\v=bJ)
def gw.sub{O:World->Prop}(h:gw R P ops C o v a)(U:∀y,O y->C y):gw R P ops O o v a:=by
 rcases h with⟨W,Y⟩|h
 exact .inl ⟨W,λy hy=>Y y (U y hy)⟩;exact .inr h
def gw.of_same{y:Act}(O:gw R P ops C o v a)(U:a8 y.eval o=a8 a.eval o)
  (W:aP o (a6 ops y.tmps)=aP o (a6 ops a.tmps)):gw R P ops C o v y:=by
 unfold gw fT at *;rw[U,W];exact O
def gw.VP(hi:ops[i]?=some o)(hC:gM R C)(O:gw R P ops C o v a)(h:K C (a.put o.dst v)):KJ R P ops i C K a:=by
 unfold KJ;simp only[hi];rcases O with⟨U,Y⟩|⟨U,rfl⟩
 simp only[U,if_true];exact⟨Unit,λ_=>C,λ_=>v,λ_=>hC,λ_ _ h=>h,λy O=>(Y y O).mono λu y' ⟨W,h2⟩=>⟨W,(),h2,hC y y' O W⟩,λ_=>h⟩;simp only[U,bo,if_false];exact h
def S7{j:Nat}{O:Oper}(hj:ops[j]?=some O)(W:oi.apart ops O=true)
  (Y:∀cs b,oi.op≠.select cs b) (aa:∀cs b,O.op≠.select cs b) {K:(World->Prop)->Act->Prop} {a:Act} (hC:gM R C)
  (U:gw R P ops C oi v a) (h:KJ R P ops j C K (a.put oi.dst v)) :
  KJ R P ops j C (λC' a'=>gM R C'/\gw R P ops C' oi v a'/\K C' (a'.put oi.dst v)) a:=by
 obtain⟨h1,h2,h3⟩:=Oper.apart_spec W
 have l6:∀(C:World->Prop)(a:Act),gw R P ops C oi v a->∀u,gw R P ops C oi v _:=λC a U u=>
  U.of_same (aH oi Y a _ u h3) (aG oi a _ u h3)
 unfold KJ at *;simp only[hj]at *;rw[aG O a _ v h1]at h;split
 rename_i hw;simp only[hw,if_true]at h;obtain⟨X,Cx,vx,q1,q2,q3,q4⟩:=h;refine⟨X,Cx,vx,q1,q2,λy ab=>?_,λx=>⟨q1 x,l6 _ _ (U.sub (q2 x)) _,by rw[<-Act.put_comm a v _ h2];exact q4 x⟩⟩;have:=q3 y ab;unfold fT at *;rwa [aH O aa a _ v h1]at this;rename_i hw;simp only[hw]at h;exact⟨hC,l6 _ a U _,by rw[<-Act.put_comm a v bJ h2];exact h⟩
def H7(hi:ops[i]?=some oi)(W:∀(j:Nat)(o:Oper)cs b,ops[j]?=some o->o.op≠.select cs b) :
  ∀(fuel:Nat)(listed:Array Bool)(C:World->Prop)(a:Act),
   (∀j oj,ops[j]?=some oj->j≠i->listed.getD j true=false->(∀e∈oj.after,aR md e=true->e.on≠i)->oi.apart ops oj=true)->
   i∈aQ md ops listed->gM R C->gw R P ops C oi v a->
   WX R P md ops Q fuel (listed.setIfInBounds i true) C (a.put oi.dst v)->WX R P md ops Q (fuel+1) listed C a:=by
 intro fuel;induction fuel with
 |zero=>
  intro listed C a _ hr hC hy H;refine⟨λh=>(by rw[h]at hr;cases hr),λj hj=>?_⟩;by_cases y:j=i;subst y;exact hy.VP hi hC H;have:=aC hj y;rw[H.1]at this;cases this
 |succ fuel ih=>
  intro listed C a O hr hC hy H;refine⟨λh=>(by rw[h]at hr;cases hr),λj hj=>?_⟩;by_cases y:j=i;subst y;exact hy.VP hi hC H;have h1:=H.2 j (aC hj y);obtain⟨Y,oj,aa,fG⟩:=_root_.Go.mem_ready.1 hj
  have ab:∀e∈oj.after,aR md e=true->e.on≠i:=λe he hb ae=>by
   have h1:=fG e he hb;have h0:=(_root_.Go.mem_ready.1 hr).1;rw[ae]at h1;rcases b4 i listed.size with h'|h'
   simp[h']at h0 h1;rw[h0]at h1;cases h1;simp[aY h']at h1
  have h2:=S7 aa (O j oj aa y Y ab) (λcs b=>W i oi cs b hi) (λcs b=>W j oj cs b aa) hC hy h1
  have U:∀k ok,ops[k]?=some ok->k≠i->(listed.setIfInBounds j true).getD k true=false->
    (∀e∈ok.after,aR md e=true->e.on≠i)->oi.apart ops ok=true:=λk ok hk af ac ag=>by
   refine O k ok hk af ?_ ag;by_cases ad:j=k;subst ad;exact Y;rw[aF true ad]at ac;exact ac
  refine OC (λC' a' h3=>ih _ C' a' U (aC hr (Ne.symm y)) h3.1 h3.2.1 ?_) h2;rw[bd _ _ y];exact h3.2.2
def dy(i:Nat)(v:Value)(O:∀y,C y->fT P oi a y (λu U=>R y U/\u=v))
  (h:WX R P md ops Q fuel (listed.setIfInBounds i true) C (a.put oi.dst v)) (hi:ops[i]?=some oi:=by rfl)
  (W:aU ops=true:=by kernel_rfl) (Y:aV md ops listed i=true:=by kernel_rfl) (hr:(aQ md ops listed).contains i=true:=by kernel_rfl) (hC:gM R C:=by first|exact eY _|exact D.eY _)
  (hw:aP oi (a6 ops a.tmps)=true:=by rfl):WX R P md ops Q (fuel+1) listed C a:=
 H7 hi (aS W) fuel listed C a (aT hi Y) (by simpa using hr) hC (.inl ⟨hw,O⟩) h
def Du{rs:List Nat}(O:aQ md ops listed=rs)(y:rs≠[])
  (h:∀i∈rs,KJ R P ops i C (λU W=>WX R P md ops Q fuel (listed.setIfInBounds i true) U W) a):WX R P md ops Q (fuel+1) listed C a:=
 ⟨λY=>absurd (O▸Y) y,O▸h⟩
def sP(O:aQ md ops listed=[])(h:∀y,C y->Q .normal a y):∀fuel,WX R P md ops Q fuel listed C a
 |0=>⟨O,h⟩
 |_+1=>⟨λ_=>h,by rw[O];simp⟩
def yi(W:Nat->Value)(D:Nat->World->Prop)(hi:ops[i]?=some oi)(hC:gM R C)(hD:∀g,gM R (D g))
  (hw:aP oi (a6 ops a.tmps)=true) (hy:∀y,C y->fT P oi a y (λv U=>R y U/\v=W y.heap.size/\D y.heap.size U))
  (h:∀g,K (λy=>C y/\D g y) (a.put oi.dst (W g))):KJ R P ops i C K a:=by
 unfold KJ;simp only[hi,hw,if_true];exact⟨Nat,λg y=>C y/\D g y,W,λg=>hC.and (hD g),λ_ _ h=>h.1,λy O=>(hy y O).mono λv U ⟨Y,h2,h3⟩=>⟨Y,y.heap.size,h2,hC y U O Y,h3⟩,h⟩
def wT(y:R w {w with drawn:=w.drawn+1})(hm:P.follows .mixedOrders=true)
  (h:WX R P .any ops Q ops.size (aX ops.size false) (R w) a):(Code.region id ops true).wp P Q a w:=
 wp_region_any hm (xa _ _ _ _ _ y h)
def jN(hm:P.follows .mixedOrders=true)(h:WX eK P .any ops Q ops.size (aX ops.size false) (eK w) a):(Code.region id ops true).wp P Q a w:=
 wT ⟨rfl,rfl,rfl,b3 _,λ_ _=>rfl⟩ hm h
def D.jN(hm:P.follows .mixedOrders=true)(h:WX D.eK P .any ops Q ops.size (aX ops.size false) (D.eK w) a):(Code.region id ops true).wp P Q a w:=
 wT ⟨⟨rfl,rfl,rfl,b3 _,λ_ _=>rfl⟩,Nat.le_succ _⟩ hm h
def GL(U:∀y O,R y O->Below y.heap.size y O)(a:Addr)(v:Value):gM R (λy=>y.cell? a=some v):=λy O h W=>by
 have hb:=Below.block (U _ _ W) _ (World.block_lt_of_cell? y a h);show O.cell? a=some v;rw[World.cell?_of_block hb];exact h
def dR(a:Addr)(v:Value):gM eK (λy=>y.cell? a=some v):=GL (λ_ _ h=>h) a v
def D.dR(a:Addr)(v:Value):gM D.eK (λy=>y.cell? a=some v):=GL (λ_ _ h=>h.1) a v
end
end
section
open Go.RowKit
variable {K:(World->Prop)->Act->Prop} {a:Act} {listed:Array Bool} {i:Nat} {oi:Oper} {v:Value} {C:World->Prop}
def mK(C:World->Prop):Prop:=∀y τ,C y->C (tp y τ)
def lY(w:World):World->Prop:=λy=>∃τ,eK (tp w τ) y
def lY.Tm(w:World):gM eK (lY w):=λ_ _ ⟨τ,h⟩ y=>⟨τ,h.trans y⟩
def TG{w y:World}(h:eK w y)(τ:Nat->Question->Nat):eK (tp w τ) (tp y τ):=by
 obtain⟨O,Y,U,W,h5⟩:=h;exact⟨O,rfl,U,W,h5⟩
def lY.free(w:World):mK (lY w):=λy τ ⟨_,h⟩=>⟨τ,TG h τ⟩
def lY.at(w:World)(d:Nat):lY w (w.at d):=⟨w.tape,⟨rfl,rfl,rfl,b3 _,λ_ _=>rfl⟩⟩
section
variable {P:Program} {ops:Array Oper} {md:Region.Mode} {last:Nat} {tl:List Nat->Prop} {Sd:Act->World->Prop}
def Bs(P:Program)(ops:Array Oper)(i:Nat)(C:World->Prop)(K:(World->Prop)->Act->Prop)(a:Act):Prop:=
 match ops[i]? with
 |none=>False|some o=>if aP o (a6 ops a.tmps)=true then
   ∃(X:Type)(O:X->World->Prop)(U:X->Value),(∀x,gM eK (O x))/\(∀x,mK (O x))/\(∀x y,O x y->C y)/\(∀y,C y->fT P o a y (λv W=>eK y W/\∃x,v=U x/\O x W))/\∀x,K (O x) (a.put o.dst (U x))
  else K C (a.put o.dst bJ)
def Ml{K':(World->Prop)->Act->Prop}(h:∀C a,K C a->K' C a)(y:Bs P ops i C K a):Bs P ops i C K' a:=by
 unfold Bs at *;split;rename_i O;simp only[O]at y;rename_i o O;simp only[O]at y;split
 rename_i U;simp only[U,if_true]at y;obtain⟨X,W,Y,h1,h2,h3,h4,h5⟩:=y;exact⟨X,W,Y,h1,h2,h3,h4,λx=>h _ _ (h5 x)⟩;rename_i U;simp only[U]at y;exact h _ _ y
def WS(P:Program)(md:Region.Mode)(ops:Array Oper)(last:Nat)(tl:List Nat->Prop)(Sd:Act->World->Prop):Nat->Array Bool->(World->Prop)->Act->Prop
 |0,_,_,_=>False|fuel+1,listed,C,a=>aQ md ops listed≠[]/\∀i∈aQ md ops listed,if i=last then(∀t,tl (bz md ops fuel t (listed.setIfInBounds last true) []))/\∀y,C y->Sd a y else Bs P ops i C (λO U=>WS P md ops last tl Sd fuel (listed.setIfInBounds i true) O U) a
structure Jv(P:Program)(ops:Array Oper)(last:Nat)(W:List Nat->Act->World->Prop):Prop where
 op:∀(i:Nat)rest a w o,i≠last->ops[i]?=some o->aP o (a6 ops a.tmps)=true->(∀τ,fT P o a (tp w τ) λv y=>eK (tp w τ) y/\W rest (a.put o.dst v) y)->W (i::rest) a w
 pass:∀(i:Nat)rest a w o,i≠last->ops[i]?=some o->aP o (a6 ops a.tmps)=false->W rest (a.put o.dst bJ) w->W (i::rest) a w
def WS.sound{W:List Nat->Act->World->Prop}(U:Jv P ops last W)(O:∀a y l,tl l->Sd a y->W (last::l) a y):∀(fuel t:Nat)(listed:Array Bool)(C:World->Prop)(a:Act)(w:World),mK C->C w->WS P md ops last tl Sd fuel listed C a->W (bz md ops fuel t listed []) a w
 |0,_,_,_,_,_,_,_,h=>h.elim
 |fuel+1,t,listed,C,a,w,hT,hC,h=>by
  obtain⟨h0,h1⟩:=h
  change W (match (aQ md ops listed)[t % (aQ md ops listed).length]? with
   |some i=>bz md ops fuel ..|none=>[].reverse) a w
  cases hi:(aQ md ops listed)[t % (aQ md ops listed).length]? with
  |none=>
   exfalso
   cases hr:aQ md ops listed with
   |nil=>exact h0 hr|cons x xs=>
    rw[hr]at hi;have aa:t % (x::xs).length<(x::xs).length:=Nat.mod_lt _ (by simp);simp at hi;simp at aa;omega
  |some i=>
   simp only[];rw[linearise_go_acc];have h2:=h1 i (List.mem_of_getElem? hi);by_cases e:i=last;subst e;simp only[if_true]at h2;exact O a w _ (h2.1 _) (h2.2 w hC);simp only[e,if_false]at h2;unfold Bs at h2
   cases Y:ops[i]? with
   |none=>simp only[Y]at h2|some o=>
    simp only[Y]at h2;by_cases hw:aP o (a6 ops a.tmps)=true;simp only[hw,if_true]at h2;obtain⟨X,Cx,vx,q1,q2,q3,q4,q5⟩:=h2;refine U.op i _ a w o e Y hw λτ=>(q4 _ (hT w τ hC)).mono λv y ⟨he,x,ev,hx⟩=>⟨he,?_⟩;rw[ev];exact WS.sound U O fuel _ _ _ _ y (q2 x) hx (q5 x);simp only[hw,bo,if_false]at h2;exact U.pass i _ a w o e Y (by simpa using hw) (WS.sound U O fuel _ _ C _ w hT hC h2)
inductive Ui(md:Region.Mode)(ops:Array Oper)(last:Nat):Nat->Prop
 |base {e o}:ops[last]?=some o->e∈o.after->aR md e=true->Ui md ops last e.on|step {j:Nat} {e o}:Ui md ops last j->ops[j]?=some o->e∈o.after->aR md e=true->Ui md ops last e.on
def Down(md:Region.Mode)(ops:Array Oper)(listed:Array Bool):Prop:=∀(j:Nat)o,ops[j]?=some o->listed.getD j false=true->∀e∈o.after,aR md e=true->listed.getD e.on false=true
def Down.Wg(h:Down md ops listed)(W:last∈aQ md ops listed)(hi:Ui md ops last i):listed.getD i false=true:=by
 induction hi with
 |base O U hb=>
  obtain⟨_,o',y,fG⟩:=_root_.Go.mem_ready.1 W;rw[O]at y;cases y;exact fG _ U hb
 |step _ O U hb Y=>exact h _ _ O Y _ U hb
def Down.set(h:Down md ops listed)(hr:i∈aQ md ops listed):Down md ops (listed.setIfInBounds i true):=by
 have up:∀k,listed.getD k false=true->(listed.setIfInBounds i true).getD k false=true:=by
  intro k U;by_cases e:i=k;subst e
  have:i<listed.size:=by
   apply Classical.byContradiction;intro hn;simp[aY (Nat.le_of_not_lt hn)]at U
  simp[this];rw[aF false e];exact U
 intro j o W Y e he hb;by_cases y:i=j;subst y;obtain⟨_,o',O,fG⟩:=_root_.Go.mem_ready.1 hr;rw[W]at O;cases O;exact up _ (fG e he hb);rw[aF false y]at Y;exact up _ (h j o W Y e he hb)
def PS{j:Nat}{O:Oper}(hj:ops[j]?=some O)(Y:oi.apart ops O=true)
  (aa:∀cs b,oi.op≠.select cs b) (ab:∀cs b,O.op≠.select cs b) {K:(World->Prop)->Act->Prop} {a:Act} (hC:gM eK C) (hT:mK C)
  (U:gw eK P ops C oi v a) (h:Bs P ops j C K (a.put oi.dst v)) :
  Bs P ops j C (λW a'=>(gM eK W/\mK W)/\gw eK P ops W oi v a'/\K W (a'.put oi.dst v)) a:=by
 obtain⟨h1,h2,h3⟩:=Oper.apart_spec Y
 have l6:∀(C:World->Prop)(a:Act),gw eK P ops C oi v a->∀u,gw eK P ops C oi v _:=λC a U u=>
  U.of_same (aH oi aa a _ u h3) (aG oi a _ u h3)
 unfold Bs at *;simp only[hj]at *;rw[aG O a _ v h1]at h;split
 rename_i hw;simp only[hw,if_true]at h;obtain⟨X,Cx,vx,q1,qt,q2,q3,q4⟩:=h;refine⟨X,Cx,vx,q1,qt,q2,λy ac=>?_,λx=>⟨⟨q1 x,qt x⟩,l6 _ _ (U.sub (q2 x)) _,by rw[<-Act.put_comm a v _ h2];exact q4 x⟩⟩;have:=q3 y ac;unfold fT at *;rwa [aH O ab a _ v h1]at this;rename_i hw;simp only[hw]at h;exact⟨⟨hC,hT⟩,l6 _ a U _,by rw[<-Act.put_comm a v bJ h2];exact h⟩
def gw.V4{o:Oper}(hi:ops[i]?=some o)(hC:gM eK C)(Y:mK C)(O:gw eK P ops C o v a)(h:K C (a.put o.dst v)):Bs P ops i C K a:=by
 unfold Bs;simp only[hi];rcases O with⟨U,hv⟩|⟨U,rfl⟩
 simp only[U,if_true];exact⟨Unit,λ_=>C,λ_=>v,λ_=>hC,λ_=>Y,λ_ _ h=>h,λy O=>(hv y O).mono λu y' ⟨W,h2⟩=>⟨W,(),h2,hC y y' O W⟩,λ_=>h⟩;simp only[U,bo,if_false];exact h
def QB(hi:ops[i]?=some oi)(ad:Ui md ops last i)(ak:i≠last)(aa:∀(j:Nat)(o:Oper)cs b,ops[j]?=some o->o.op≠.select cs b) :
  ∀(fuel:Nat)(listed:Array Bool)(C:World->Prop)(a:Act),Down md ops listed->
   (∀j oj,ops[j]?=some oj->j≠i->listed.getD j true=false->(∀e∈oj.after,aR md e=true->e.on≠i)->oi.apart ops oj=true\/j=last)->
   i∈aQ md ops listed->gM eK C->mK C->gw eK P ops C oi v a->
   WS P md ops last tl Sd fuel (listed.setIfInBounds i true) C (a.put oi.dst v)->WS P md ops last tl Sd (fuel+1) listed C a:=by
 intro fuel;induction fuel with
 |zero=>intro listed C a _ _ _ _ _ _ H;exact H.elim|succ fuel ih=>
  intro listed C a hD O hr hC hT hy H;refine⟨λh=>(by rw[h]at hr;cases hr),λj hj=>?_⟩;have y:=(_root_.Go.mem_ready.1 hr).1;by_cases W:j=last;subst W;have:=hD.Wg hj ad;rcases b4 i listed.size with h'|h'
  simp[h']at this y;rw[y]at this;cases this;simp[aY h']at this;simp only[W,if_false];by_cases U:j=i;subst U;exact hy.V4 hi hC hT H;have h1:=H.2 j (aC hj U);simp only[W,if_false]at h1;obtain⟨ab,oj,ac,fG⟩:=_root_.Go.mem_ready.1 hj
  have ae:∀e∈oj.after,aR md e=true->e.on≠i:=λe he hb ah=>by
   have h1:=fG e he hb;rw[ah]at h1;rcases b4 i listed.size with h'|h'
   simp[h']at y h1;rw[y]at h1;cases h1;simp[aY h']at h1
  have h2:=PS ac ((O j oj ac U ab ae).resolve_right W) (λcs b=>aa i oi cs b hi) (λcs b=>aa j oj cs b ac) hC hT hy h1
  have Y:∀k ok,ops[k]?=some ok->k≠i->(listed.setIfInBounds j true).getD k true=false->
    (∀e∈ok.after,aR md e=true->e.on≠i)->oi.apart ops ok=true\/k=last:=λk ok hk ai af aj=>by
   refine O k ok hk ai ?_ aj;by_cases ag:j=k;subst ag;exact ab;rw[aF true ag]at af;exact af
  refine Ml (λC' a' h3=>ih _ C' a' (hD.set hj) Y (aC hr (Ne.symm U)) h3.1.1 h3.1.2 h3.2.1 ?_) h2;rw[bd _ _ U];exact h3.2.2
end
open Go.Conc
variable {fuel:Nat} {o:Oper}
section
variable {P:Program} {ops:Array Oper} {md:Region.Mode} {last:Nat} {tl:List Nat->Prop} {Sd:Act->World->Prop}
def vu(md:Region.Mode)(ops:Array Oper)(j:Nat):List Nat:=match ops[j]? with
 |some o=>(o.after.toList.filter λe=>aR md e).map (·.on)|none=>[]
def QT(md:Region.Mode)(ops:Array Oper)(last:Nat):Nat->List Nat
 |0=>vu md ops last|n+1=>QT md ops last n++(QT md ops last n).flatMap (vu md ops)
def Gd{j i:Nat}(h:i∈vu md ops j):∃o e,ops[j]?=some o/\e∈o.after/\aR md e=true/\e.on=i:=by
 unfold vu at h
 cases y:ops[j]? with
 |none=>rw[y]at h;cases h
 |some o=>
  rw[y]at h;simp only[bw,bv,be]at h;obtain⟨e,⟨O,U⟩,W⟩:=h;exact⟨o,e,rfl,O,U,W⟩
def II:∀(n:Nat){i:Nat},i∈QT md ops last n->Ui md ops last i
 |0,i,h=>by
  obtain⟨o,e,y,O,U,rfl⟩:=Gd h
  exact .base y O U
 |n+1,i,h=>by
  rcases List.mem_append.1 h with h|h
  exact II n h;obtain⟨j,W,hi⟩:=List.mem_flatMap.1 h;obtain⟨o,e,y,O,U,rfl⟩:=Gd hi;exact .step (II n W) y O U
def PG(md:Region.Mode)(ops:Array Oper)(listed:Array Bool):Bool:=(bx ops.size).all λj=>!listed.getD j false || (vu md ops j).all λi=>listed.getD i false
def SE(h:PG md ops listed=true):Down md ops listed:=by
 intro j o y O e U hb;unfold PG at h;rw[bu]at h;have:=h j (by simpa using(aZ.1 y).1);rw[O]at this;simp only[Bool.not_true,Bool.false_or,bu]at this;refine this _ ?_;unfold vu;rw[y];simp only[bw,bv,be];exact⟨e,⟨U,hb⟩,rfl⟩
def SZ(md:Region.Mode)(ops:Array Oper)(last:Nat)(listed:Array Bool)(i:Nat):Bool:=aU ops&&aV md ops listed i&&(aQ md ops listed).contains i&&(QT md ops last ops.size).contains i&&i != last&&PG md ops listed
def dH(i:Nat)(v:Value){oi:Oper}{a:Act}(O:∀y,C y->fT P oi a y (λu U=>eK y U/\u=v))
  (h:WS P md ops last tl Sd fuel (listed.setIfInBounds i true) C (a.put oi.dst v)) (hi:ops[i]?=some oi:=by rfl) (hb:SZ md ops last listed i=true:=by kernel_rfl) (hC:gM eK C:=by exact lY.Tm _) (W:mK C:=by exact lY.free _)
  (Y:aP oi (a6 ops a.tmps)=true:=by rfl):WS P md ops last tl Sd (fuel+1) listed C a:=by
 simp only[SZ,bp]at hb;obtain⟨⟨⟨⟨⟨h1,h2⟩,h3⟩,h4⟩,h5⟩,h6⟩:=hb;exact QB hi (II _ (by simpa using h4)) (by simpa using h5) (aS h1) fuel listed C a (SE h6) (λj oj a b c d=>.inl (aT hi h2 j oj a b c d)) (by simpa using h3) hC W (.inl ⟨Y,O⟩) h
def Eg(O:aQ md ops listed=[]):∀(fuel t:Nat),bz md ops fuel t listed []=[]
 |0,_=>rfl
 |f+1,t=>by
  simp only[bz]
  split
  .rename_i q U
   have y:(aQ md ops listed)[t % (aQ md ops listed).length]?=some q:=U
   rw[O]at y;cases y
  rfl
def oA{a:Act}(U:aQ md ops listed=[last])(W:∀t,tl (bz md ops fuel t (listed.setIfInBounds last true) []))(h:∀y,C y->Sd a y):WS P md ops last tl Sd (fuel+1) listed C a:=by
 refine⟨by rw[U];simp,λj O=>?_⟩;rw[U]at O;simp only[bs,br,or_false]at O;subst O;simp only[if_true];exact⟨W,h⟩
end
section
variable {P:Program} {ops:Array Oper} {Q:Exit->Act->World->Prop}
def nH(P:Program)(ops:Array Oper)(Q:Exit->Act->World->Prop)(l:List Nat)(a:Act)(w:World):Prop:=∀b k cs,∃e y w',Q e y w'/\Arrives P (aN (b.at a (.inRegion ops l::k)) cs w) b k cs e y w'
def lO{i:Nat}{rest:List Nat}{a:Act}{w:World}(ho:ops[i]?=some o)(hw:aP o (a6 ops a.tmps)=true)(hj:fT P o a w λv y=>nH P ops Q rest (a.put o.dst v) y):nH P ops Q (i::rest) a w:=by
  intro b k cs;have hg:=stepG_op (P:=P) (b:=b) (k:=k) (cs:=cs) (w:=w) (rest:=rest) ho hw
  have U:∀v,(b.at a (.inRegion ops (i::rest)::k)).finish v=b.at (a.put o.dst v) (.inRegion ops rest::k):=by
   intro v;rw[bA,ho];rfl
  unfold fT at hj
  cases hr:(a8 _ o).run P w with
  |halt x w'=>rw[hr]at hj;exact hj.elim|ok n w'=>
   rw[hr]at hj;cases n<;>simp only[iG]at hj
   case value v=>
    obtain⟨e,a',W,hq,O⟩:=hj b k cs;refine⟨e,a',W,hq,.of_steps (.one (aI ?_)) O⟩;rw[hg,<-U];simp[bl,hr]
   case skip=>
    obtain⟨e,a',W,hq,O⟩:=hj b k cs;refine⟨e,a',W,hq,.of_steps (.one (aI ?_)) O⟩;rw[hg,<-U];simp[bl,hr]
   case enter f args=>
    obtain⟨rfl,hc⟩:=hj;obtain⟨e,w2,fr,⟨v,rfl,hR⟩,ab,_,Y⟩:=hc _;obtain⟨e,a',W,hq,O⟩:=hR b k cs
    have aa:step P _=.next (aN (b' P f args .normal) (b.at a (.inRegion ops (i::rest)::k)::cs) w'):=
     aI (by rw[hg];simp[bl,hr,Frame.at])
    refine⟨e,a',W,hq,.of_steps (.head aa (Steps.trans ab (.one ?_))) O⟩;rw[<-U];exact step_leave_returned Y
def I9{i:Nat}{rest:List Nat}{a:Act}{w:World}(O:ops[i]?=some o)(W:aP o (a6 ops a.tmps)=false)(h:nH P ops Q rest (a.put o.dst bJ) w):nH P ops Q (i::rest) a w:=by
  intro b k cs;obtain⟨e,Y,w',hq,y⟩:=h b k cs;have U:=step_op_skip (P:=P) (b:=b) (a:=a) (k:=k) (cs:=cs) (w:=w) (ops:=ops) (i:=i) (rest:=rest) (by simp[O,W]);simp only[O,bG]at U;exact⟨e,Y,w',hq,.of_steps (.one U) y⟩
def Jl{last:Nat}{τ₀:Nat->Question->Nat}:Jv P ops last λl a w=>w.tape=τ₀->nH P ops Q l a w where
 op i rest a w o _ ho hw hj ht:=lO ho hw ((show fT P o a w _ from hj w.tape).mono λ_ _ h=>h.2 (h.1.tape.trans ht))
 pass i rest a w o _ ho hw h ht:=I9 ho hw (h ht)
def Ap{i:Nat}{a:Act}{w:World}{x y:Operand}{r cap s rc:Nat}{O:Array Value}{tm:Bool}{v:Value}(ho:ops[i]?=some o)(hg:o.guard=none)(aa:o.op=.send x y)(hd:o.dst=none)(hx:a.eval x=.chan (some r))(hy:a.eval y=v)(hc:w.heap[r]?=some (.chan cap O false s rc tm))(hb:O.size<cap)
  (h:Q .normal a {w with heap:=w.heap.setIfInBounds r (.chan cap (O.push v) false (s+1) rc tm)}):nH P ops Q [i] a w:=by
 intro b k cs;have hw:aP o (a6 ops a.tmps)=true:=by simp[aP,hg]
 have hg:=stepG_op (P:=P) (b:=b) (k:=k) (cs:=cs) (w:=w) (rest:=[]) ho hw
 have W:a8 a.eval o=pure (.comm #[{chan:=.chan (some r),send:=some v,zero:=bJ}] true .send):=by
  obtain⟨d,op,ty,ps,af,gd⟩:=o;subst aa;simp only[a8,hx,hy];rfl
 have ab:aE P true (G (b.at a (.inRegion ops [i]::k)) cs) w=.comm (G (b.at a (.inRegion ops [i]::k)) cs) #[⟨.chan (some r),some v,bJ⟩] true .send w (aL P b.fn (if(b.kind==CallKind.early)=true then #[]else #[])):=by
  show aE P true {frame:=b.at a _,callers:=cs,status:=.running,dying:=none} w=_;rw[hg,W];rfl
 have U:=(GK.send (P:=P) ab hc hb).next
 have Y:(b.at a (.inRegion ops [i]::k)).finish bJ=b.at a (.inRegion ops []::k):=by
  rw[bA,ho];simp[Act.put,hd]
 refine⟨.normal,a,_,h,.head U ?_⟩;show Steps P (aN ((b.at a (.inRegion ops [i]::k)).finish bJ) cs _) _;rw[Y];exact .one step_region_end
def ib{id last:Nat}{tl:List Nat}{a:Act}{w:World}{Sd:Act->World->Prop}(hm:P.follows .mixedOrders=true)(h:WS P .any ops last (· = tl) Sd ops.size (aX ops.size false) (lY w) a)(U:∀a y,Sd a y->y.tape=w.tape->nH P ops Q (last::tl) a y):(Code.region id ops true).wp P Q a w:=by
 intro b k cs;obtain⟨e,W,w',Y,O⟩:=WS.sound (Jl (P:=P) (ops:=ops) (Q:=Q) (τ₀:=w.tape)) (λa y l hl hh=>by rw[show l=tl from hl];exact U a y hh) _ _ _ _ a {w with drawn:=w.drawn+1} (lY.free w) (lY.at w _) h rfl b k cs;refine⟨e,W,w',Y,.of_steps (.one ?_) O⟩;rw[step_region_draw];simp only[aW,hm,bq,if_true];rfl
end
variable {Sd:Act->World->Prop} {ops:Array Oper} {id last:Nat}
section
variable {P:Program} {E:Env P} {fn:a9} {tm:Array Value} {os:List OF} {wl:World} {V:List (Nat×Option (List Value))} {k:List Item}
def iZ.calls{i:Nat}{rest:List Nat}{o:Oper}{f:a9}{args:Array Value}{R:Ending->World->Prop}(hi:ops[i]?=some o)(hC:∀τ,Bu τ wl->aA P f args (tp wl τ) R)(hR:∀e w',R e w'->∃v,e=.returned v/\dh E (⟨fn,eP o.dst tm v,.inRegion ops rest::k⟩::os) w' V) :
  iZ E ⟨b' P f args .normal,[door P],wl⟩ (⟨fn,tm,.inRegion ops (i::rest)::k⟩::os) V:=by
 let O:LS->Prop:=λS=>S.cs=[door P]/\∃v,S.fr.leaving P S.w (.returned v)/\R (.returned v) S.w;refine iZ.ob (Stop:=λS=>∃τ,O (S.on τ)) (λS τ ⟨y,h⟩=>⟨y,h⟩) (λy W=>?_) λS' ⟨y,hc,v,hl,Y⟩=>?_;obtain⟨e,w',fr,Y,U,_,aa⟩:=hC y W _;obtain⟨v,rfl,_⟩:=hR e w' Y;obtain⟨n,hn⟩:=U;exact⟨n,⟨fr,[door P],w'⟩,hn,⟨w'.tape,rfl,v,aa,Y⟩,by simp⟩;obtain⟨v',hv,hW⟩:=hR _ _ Y;cases hv;exact iZ.tape (τ:=y) (iZ.ret hi hc hl hW)
def dh.any{i:Nat}{rest:List Nat}{o:Oper}(hi:ops[i]?=some o)(av:aP o (a6 ops tm)=true)(ho:OkOp P E.fF E.gl E.st o.op)
  (af:∀τ,iG P (tp wl τ) (λv y=>dh E (⟨fn,eP o.dst tm v,.inRegion ops rest::k⟩::os) y V) ((a8 (iW tm) o).run P (tp wl τ))):dh E (⟨fn,tm,.inRegion ops (i::rest)::k⟩::os) wl V:=by
 intro m Pd ρ gs w sl t fr' cs' W aw am ag h0;refine turn (Z:=E.Z) (a:=G fr' cs') (K:=λj=>(ρ j).sum) (N:=gs.size) rfl ?_ ρ gs w sl t aw (λ_=>rfl) h0 rfl;intro ρ' gs' w' ax aa d t' ab hK ah hN;have ai:=ag
 cases ag with
 |@cons _ _ O l ht ay=>
  have hs:=Ih W.qf.env W.qf.strict W.qf.iq (gl:=E.gl) (ρ:=iW tm) (ρ':=iW O) (λx hx=>Lo ht W.qf.po x hx) (λc=>⟨rfl,rfl⟩) o (by rw[W.fF];exact ho);have an:=ab.main.tp (along wl (w'.at d));have ao:=hs.run (tp wl (along wl (w'.at d))) (w'.at d) #[] an (pA wl (w'.at d));have ap:=hs.loc (tp wl (along wl (w'.at d))) (w'.at d) an;have hJ:=af (along wl (w'.at d));have hy:aP o (a6 ops O)=true:=by rw[show a6 ops O=a6 ops tm from funext (mu ops ht)];exact av
  have aq:=ml (P:=P) (fn:=fn) (k:=k) (rest:=rest) (cs':=cs') (w:=w'.at d) hi hy;have ar:0<gs'.size:=(aZ.1 ah).1;have ac:=λv'=>jd fn O ops i rest k v';simp only[hi,bG]at ac
  cases ad:(a8 (iW tm) o).run P (tp wl (along wl (w'.at d)))with
  |halt x wn=>rw[ad]at hJ;exact hJ.elim|ok n wn=>
   rw[ad]at hJ ao;obtain⟨U,n',w₁,es,e1,e2,e3,e4,_,e5,e6⟩:=ao;rw[bg]at e1
   have au:∀e∈aL P fn (if(CallKind.normal==CallKind.early)=true then #[]else es),py U e:=λe he=>by
    have:=mem_seen he;split at this;simp at this;exact e6 e this
   have val:∀v v',VR U v v'->dh E (⟨fn,eP o.dst tm v,.inRegion ops rest::k⟩::os) wn V->bl P true (fY fn O (.inRegion ops (i::rest)::k)) cs' none (a8 (iW O) o) (w'.at d)=.go (G (fY fn (eP o.dst O v') (.inRegion ops rest::k)) cs') w₁ (aL P fn (if(CallKind.normal==CallKind.early)=true then #[]else es))->E.Z.Fin (crowd gs' w' ax) (runT P (crowd gs' (w'.at d) aa) 0) t':=by
    intro v v' hv hW aj;have ak:=runT_crowd_go (P:=P) (sl:=aa) (i:=0) ah (show aE P (0==0) _ (w'.at d)=_ from aq.trans aj);rw[ak];refine E.Z.next _ _ _ _ ?_;exact hW U Pd ρ' _ _ aa _ _ _ (W.le e2 e5) (ab.xx (gs':=(gs'.map (woken P _ _ w₁)).setIfInBounds 0 (G (fY fn (eP o.dst O v') (.inRegion ops rest::k)) cs')) e2 e5 au e4 (by simp) (gO _)) (am.le e2 hK) (.cons (o:=⟨fn,eP o.dst tm v,.inRegion ops rest::k⟩) ((ht.mono e2).eP o.dst hv) (ay.mono e2)) (by simp[ar])
   cases n<;>simp only[iG]at hJ
   case value v=>
    cases e3 with
    |@value _ v' hv=>
     refine val v v' hv hJ ?_;unfold bl;simp only[if_true,e1,ac];simp[bE,G,fY]
   case skip=>
    cases e3 with
    |skip=>
     refine val bJ bJ (.undef U) hJ ?_;unfold bl;simp only[if_true,e1,ac];simp[bE,G,fY]
   case enter f args=>
    obtain⟨rfl,hc⟩:=hJ
    have fG:∀τ,Bu τ (tp wl (along wl (w'.at d)))->aA P f args (tp (tp wl (along wl (w'.at d))) τ) λe az=>∃v,e=.returned v/\dh E (⟨fn,eP o.dst tm v,.inRegion ops rest::k⟩::os) az V:=by
     intro τ _;rcases ap with⟨x,w2,ex,_⟩|⟨_,_,h3⟩
     rw[ad]at ex;cases ex;have h4:=h3 τ (by rw[ad];intro j a b;simp only[Ez]at b;omega);rw[ad]at h4;have h4:(a8 _ o).run P (tp wl τ)=.ok _ _:=h4;have h5:=af τ;rw[h4]at h5;exact h5.2
    have hW:=iZ.calls (E:=E) (fn:=fn) (tm:=tm) (os:=os) (V:=V) (k:=k) (rest:=rest) hi fG λe w' h=>h
    cases e3 with
    |@enter _ _ al hf hb ha=>
     have aj:bl P true (fY fn O (.inRegion ops (i::rest)::k)) cs' none (a8 (iW O) o) (w'.at d)=.go (G (b' P f al .normal) (fY fn O (.inRegion ops (i::rest)::k)::cs')) w₁ (aL P fn (if(CallKind.normal==CallKind.early)=true then #[]else es)):=by
      unfold bl;simp only[if_true,e1];simp[bE,G,fY]
     have ak:=runT_crowd_go (P:=P) (sl:=aa) (i:=0) ah (show aE P _ _ _=_ from aq.trans aj);rw[ak];refine E.Z.next _ _ _ _ ?_;have Y:=W.le e2 e5;have ae:=ai.mono e2;exact hW U Pd ρ' _ _ aa _ _ _ _ Y (ab.xx (gs':=(gs'.map _).setIfInBounds 0 _) e2 e5 au e4 (by simp) (gO _)) (am.le e2 hK) ae (.one (DC (Y.qf.env.calls f hf) hb ha _ _) rfl (.inl ⟨rfl,ui (.inl (by simp)) ae⟩) rfl) (by simp[ar])
def uw(o:Option Tmp)(tm:Array Value)(v:Value):(Act.put ⟨tm,[]⟩ o v)=⟨eP o tm v,[]⟩:=by cases o<;>rfl
def Va(E:Env P)(fn:a9)(ops:Array Oper)(k:List Item)(os:List OF)(V:List (Nat×Option (List Value)))(l:List Nat)(a:Act)(w:World):Prop:=a.defers=[]->dh E (⟨fn,a.tmps,.inRegion ops l::k⟩::os) w V
def Jo(W:∀(i:Nat)o,i≠last->ops[i]?=some o->OkOp P E.fF E.gl E.st o.op):Jv P ops last (Va E fn ops k os V) where
 op:=by
  intro i rest a w o hl U Y hj O;obtain⟨tm,df⟩:=a;simp only at O;subst O;refine dh.any U Y (W i o hl U) λτ=>?_;have:=hj τ;unfold fT at this;refine iG.mono (λv y ⟨_,h⟩=>?_) this;rw[uw]at h;exact h rfl
 pass:=by
  intro i rest a w o _ U Y h O;obtain⟨tm,df⟩:=a;simp only at O;subst O;rw[uw]at h;exact dh.pass U Y (h rfl)
def dh.G'{tl:List Nat->Prop}(hm:P.follows .mixedOrders=true)(O:∀(i:Nat)o,i≠last->ops[i]?=some o->OkOp P E.fF E.gl E.st o.op)(h:WS P .any ops last tl Sd ops.size (aX ops.size false) (lY wl) ⟨tm,[]⟩)
  (U:∀a y l,tl l->Sd a y->a.defers=[]/\dh E (⟨fn,a.tmps,.inRegion ops (last::l)::k⟩::os) y V):dh E (⟨fn,tm,.code (.region id ops true)::k⟩::os) wl V:=by
 refine dh.Rr λt=>?_;simp only[aW,hm,bq,if_true];exact WS.sound (Jo O) (λa y l W h _=>(U a y l W h).2) _ t _ _ _ wl (lY.free wl) (lY.at wl _) h rfl
def dh.IL{tl:List Nat}(hm:P.follows .mixedOrders=true)(O:∀(i:Nat)o,i≠last->ops[i]?=some o->OkOp P E.fF E.gl E.st o.op)(h:WS P .any ops last (· = tl) Sd ops.size (aX ops.size false) (lY wl) ⟨tm,[]⟩)
  (U:∀a y,Sd a y->a.defers=[]/\dh E (⟨fn,a.tmps,.inRegion ops (last::tl)::k⟩::os) y V):dh E (⟨fn,tm,.code (.region id ops true)::k⟩::os) wl V:=
 dh.G' hm O h λa y l W Y=>by rw[show l=tl from W];exact U a y Y
end
end
section
open Go.Conc
variable {p:Addr} {tm:Array Value} {v:Value}
structure zJ(P:Program)(f:a9)(gP:Func)(s:Tmp)(ty:aD)(ops:Array Oper)(rest:Code):Prop where
 fn:P.funcs[f]?=some gP
 body:gP.body=some (.seq (.region 0 ops false) rest)
 name:gP.name≠ "runtime.NumGoroutine"
 two:∃q0 q1 a0 a1,ops=#[{dst:=some s,op:=.load ty (.tmp 0),type:=ty,pos:=q0,after:=a0,guard:=none},{dst:=none,op:=.defer {callee:=.builtin .close,args:=#[.tmp s],argTypes:=#[ty]},type:=0,pos:=q1,after:=a1,guard:=none}]
 load:∀(a:Addr)(v:Value)(w:World),w.cell? a=some v->(bI ty (.pointer (some a)) >>= λv=>(pure (.value v):Sem Go.Next)).runT P w #[]=(.ok (.value v) w,#[⟨.cell a,false,false⟩])
def xN(P:Program):Frame:={(default:Frame)with fn:=P.funcs.size,defers:=[],mode:=.panicking [goexitEntry]}
section
variable {P:Program} {f:a9} {gP:Func} {s:Tmp} {ty:aD} {ops:Array Oper} {rest:Code}
def EC(f:a9)(tm:Array Value)(td:List Item)(y:List Deferred):Frame:=⟨f,tm,td,y,.run,.deferred,none⟩
def Dd(y:zJ P f gP s ty ops rest)(cap:Array Value)(w:World):aE P false (lD P ⟨.fn (.func f) cap,#[]⟩) w=.go (G (EC f (cap++aX (gP.ntmps-cap.size) bJ) [.code (.seq (.region 0 ops false) rest)] []) [xN P]) w #[]:=by
 have U:(gP.name == "runtime.NumGoroutine")=false:=by simpa using y.name
 have O:(invoke (.fn (.func f) cap) #[]).runT P w #[]=(.ok (.enter f cap) w,#[]):=by
  have e:invoke (.fn (.func f) cap) #[]=callFunc f _:=rfl;rw[e,bg];unfold callFunc;have W:∀k:Program->Sem Go.Next,(program >>= k).runT P w #[]=(k P).runT P w _:=λk=>rfl;rw[W];simp only[y.fn,U,y.body,bo,if_false,Option.isNone_some];rfl
 have Y:aE P false (lD P ⟨.fn (.func f) cap,#[]⟩) w=aO P (xN P) [] none ⟨.fn (.func f) cap,#[]⟩ w:=rfl;rw[Y];unfold aO;simp only[O,Bool.false_and,bo,if_false];simp[bE,G,EC,b',y.fn,y.body,aL]
def G6(f:a9)(tm:Array Value)(td:List Item)(y:List Deferred):(EC f tm td y).eval=iW tm:=by funext x;cases x<;>rfl
def GI(hc:zJ P f gP s ty ops rest){w:World}{ps:Frame}(hq:(P.funcs[f]?).any (·.norace)=false)(hp:tm.getD 0 bJ=.pointer (some p))(hv:w.cell? p=some v) :
  aE P false (G (EC f tm [.inRegion ops [0,1],.code rest] []) [ps]) w=.go (G (EC f (tm.setIfInBounds s v) [.inRegion ops [1],.code rest] []) [ps]) w #[⟨.cell p,false,false⟩]:=by
 obtain⟨W,q1,a0,a1,O⟩:=hc.two;have e:aE P false (G (EC f tm [.inRegion ops [0,1],.code rest] []) [ps]) w=bm P false true (EC f tm [.inRegion ops [0,1],.code rest] []) _ none w:=rfl;rw[e];have he:=G6 f tm [.inRegion ops [0,1],.code rest] []
 have U:(a8 (iW tm) {dst:=some s,op:=.load ty (.tmp 0),type:=ty,pos:=W,after:=a0,guard:=none}).runT P w #[]=(.ok (.value v) w,#[⟨.cell p,false,false⟩]):=by
  have e1:a8 (iW tm) {dst:=some s,op:=.load ty (.tmp 0),type:=ty,pos:=W,after:=a0,guard:=none}=(bI ty _ >>= λv=>pure _):=rfl;rw[e1];have e2:iW tm (.tmp 0)=.pointer _:=hp;rw[e2];exact hc.load p v w hv
 unfold bm;have y:ops[0]?=some {dst:=some s,op:=.load ty (.tmp 0),type:=ty,pos:=W,after:=a0,guard:=none}:=by rw[O];rfl
 simp only[EC,y,bH,bF];rw[if_pos (by simp[aP])];unfold bn;simp only[bC,y];have Y:bD ⟨f,tm,[.inRegion ops _,.code rest],[],.run,.deferred,none⟩=iW tm:=he;rw[Y];unfold bl;simp only[if_true,U];simp[bE,G,bB,y,aL,hq]
def Tb(s:Tmp):Array Bool:=(#[Operand.tmp s]).map fun|.const _=>true|_=>false
def Et(hc:zJ P f gP s ty ops rest){w:World}{ps:Frame}(hs:tm.getD s bJ=v):aE P false (G (EC f tm [.inRegion ops [1],.code rest] []) [ps]) w=.go (G (EC f tm [.inRegion ops [],.code rest] [⟨.builtin .close #[ty] 0 (Tb s),#[v]⟩]) [ps]) w #[]:=by
 obtain⟨q0,W,a0,a1,O⟩:=hc.two;have e:aE P false (G (EC f tm [.inRegion ops [1],.code rest] []) [ps]) w=bm P false true (EC f tm [.inRegion ops [1],.code rest] []) _ none w:=rfl;have he:=G6 f tm [.inRegion ops [1],.code rest] []
 have U:(a8 (iW tm) {dst:=none,op:=.defer {callee:=.builtin .close,args:=#[.tmp s],argTypes:=#[ty]},type:=0,pos:=W,after:=a1,guard:=none}).runT P w #[]=(.ok (.defer ⟨.builtin .close #[ty] 0 (Tb s),#[v]⟩) w,#[]):=by
  have ha:(#[Operand.tmp s]).map (iW tm)=#[v]:=by simp[iW,Act.eval,<-hs]
  have e1:a8 (iW tm) {dst:=none,op:=.defer {callee:=.builtin .close,args:=#[.tmp s],argTypes:=#[ty]},type:=0,pos:=W,after:=a1,guard:=none}=pure _:=rfl;rw[e1,ha];rfl
 rw[e];unfold bm;have y:ops[1]?=some {dst:=none,op:=.defer {callee:=.builtin .close,args:=#[.tmp s],argTypes:=#[ty]},type:=0,pos:=W,after:=a1,guard:=none}:=by rw[O];rfl
 simp only[EC,y,bH,bF];rw[if_pos (by simp[aP])];unfold bn;simp only[bC,y];have Y:bD ⟨f,tm,[.inRegion ops _,.code rest],[],.run,.deferred,none⟩=iW tm:=he;rw[Y];unfold bl;simp only[if_true,U];simp[bE,G,bB,y,aL]
def Bz{J:mW}{m:Ren}{S:LS}{cap y:Array Value}(hc:zJ P f gP s ty ops rest)(hq:(P.funcs[f]?).any (·.norace)=false)(ag:lZ P m J.gl false)(Y:¬m.iq)(ah:Open m)(hJ:J.Ren m)(hT:J.T=[xN P])(O:eD m cap y)(ai:cap[0]?=some (.pointer (some p)))(au:s≠0)(hs:s<gP.ntmps)(hn:cap.size<=gP.ntmps)(aj:S.w.cell? p=some (.chan (some J.r)))(ak:fR m.ok rest)
  (hS:S.fr=⟨f,(cap++aX (gP.ntmps-cap.size) bJ).setIfInBounds s (.chan (some J.r)),[.code rest],[⟨.collected J.rd,#[.chan (some J.r)]⟩],.run,.normal,none⟩) (aa:S.cs=[door P]):rL P J m S 5 (lD P ⟨.fn (.func f) y,#[]⟩):=by
 have av:∀w:World,w.at w.drawn=w:=λw=>rfl;obtain⟨q',ab,al⟩:=O.get ai
 have am:∃p',q'=.pointer (some p')/\AR m p p':=by
  cases al with
  |ptr ha=>exact⟨_,rfl,ha⟩
 obtain⟨p',rfl,ac⟩:=am
 have ad:(y++aX (gP.ntmps-y.size) bJ).getD 0 bJ=.pointer (some p'):=by
  have an:0<y.size:=(aZ.1 ab).1;rw[ba,bc an,ab];rfl
 have W:∀w,WR m S.w w->w.cell? p'=some (.chan (some J.c)):=by
  intro w U;obtain⟨v',ao,ap⟩:=U.cell ac aj
  cases ap with
  |chan hb=>
   rw[hJ.ch]at hb;cases hb;exact ao
 have aq:y.size=cap.size:=O.size.symm;refine⟨rfl,λw U=>⟨_,w.drawn,#[],Dd hc y w,by simp,?_⟩⟩;refine⟨rfl,λw U=>⟨G (EC f (y++aX (gP.ntmps-y.size) bJ) [.code (.region 0 ops false),.code rest] []) [xN P],w.drawn,#[],rfl,by simp,?_⟩⟩;refine⟨rfl,λw U=>⟨G (EC f (y++aX (gP.ntmps-y.size) bJ) [.inRegion ops [0,1],.code rest] []) [xN P],w.drawn,#[],?_,by simp,?_⟩⟩
 .obtain⟨q0,q1,a0,a1,ae⟩:=hc.two;have:bx ops.size=[0,1]:=by rw[ae];rfl
  show bm P false true (EC f (y++aX (gP.ntmps-y.size) bJ) [.code (.region 0 ops false),.code rest] []) [xN P] none w=_;unfold bm;simp[EC,G,this];rfl
 refine⟨rfl,λw U=>⟨_,w.drawn,_,GI (ps:=xN P) hc hq ad (W w U),?_,?_⟩⟩
 .intro e he;simp only[List.mem_toArray,bs,br,or_false]at he;subst he;exact⟨rfl,p,ac,λh=>by cases h⟩
 have af:((y++aX (gP.ntmps-y.size) bJ).setIfInBounds s (.chan (some J.c))).getD s bJ=.chan (some J.c):=by
  have hz:(y++aX (gP.ntmps-y.size) bJ).size=gP.ntmps:=by simp;omega
  have:s<(y++aX (gP.ntmps-y.size) bJ).size:=by rw[hz];exact hs
  rw[ba,Array.getElem?_setIfInBounds_self_of_lt this];rfl
 have ar:=λw=>Et (ps:=xN P) (w:=w) hc af;refine⟨rfl,λw U=>⟨_,w.drawn,#[],ar w,by simp,?_⟩⟩;refine⟨rfl,λw U=>⟨EC f _ _ _,[xN P],w.drawn,#[],rfl,by simp,?_⟩⟩;refine⟨ag,Y,ah,?_,U.at _⟩;rw[aa,hS,hT];refine .one ⟨rfl,?_,.cons (.code rest ak) .nil,.cons ⟨.mark _ _ _ hJ.dead,.one (.chan hJ.ch)⟩ .nil,.run,.none⟩ rfl (.inr ⟨rfl,xN P,rfl,rfl⟩) rfl;rw[aq];exact(O.append (.replicate _ (.undef m))).set s (.chan hJ.ch)
end
variable {c:Array Value} {caps:List Nat} {r:Nat}
structure Ren.zg(m m':Ren):Prop where
 blk:m'.blk=m.blk
 ch:m'.ch=m.ch
 ok:m'.ok=m.ok
 fF:m'.fF=m.fF
 iq:m'.iq=m.iq
 dead:m'.dead=m.dead
 dm:m'.dm=m.dm
 G:m'.G=m.G
 sW:m'.sW=m.sW
section
variable {m m':Ren}
def AR.kF(h:m.zg m'){a y:Addr}(x:AR m a y):AR m' a y:=by cases x with|mk hb=>exact .mk (by rw[h.blk];exact hb)
def NS.kF(h:m.zg m'){a y:Fn}(x:NS m a y):NS m' a y:=by
 cases x with
 |func f O=>exact .func f (by rw[h.fF];exact O)|yield hb=>exact .yield (by rw[h.blk];exact hb)
def VR.kF(h:m.zg m'){v Y:Value}(x:VR m v Y):VR m' v Y:=by
 induction x with
 |fV v hv=>exact .fV v hv|ri y _ U O=>exact .ri y O U|bool|int|string|gR|fE|mQ|je|nilFunc|nilIface=>constructor|ptr W=>exact .ptr (W.kF h)|slice l c W=>exact .slice l c (W.kF h)|map hb=>exact .map (by rw[h.blk];exact hb)|gone hd=>rw[<-h.dm];exact .gone (by rw[h.dead];exact hd)|chan hb=>exact .chan (by rw[h.ch];exact hb)|func hf y _ U _ i1 i2=>exact .func (hf.kF h) y i1 U i2|iface t _ O=>exact .iface t O|agg y _ O=>exact .agg y O|tuple y _ O=>exact .tuple y O
def eD.kF(h:m.zg m'){y:Array Value}(x:eD m c y):eD m' c y:=dT.mono (λ_ _=>VR.kF h) x
def TR.kF(h:m.zg m'){a O:Target}(x:TR m a O):TR m' a O:=by
 cases x with
 |fn U=>exact .fn (U.imp (λy=>⟨y.1.kF h,y.2.kF h⟩) id)|nil=>exact .nil|builtin a t c hm=>exact .builtin a t c (by rw[h.iq];exact hm)|mark a t c W=>exact .mark a t c (by rw[h.dead];exact W)|collected hb=>exact .collected (by rw[h.blk];exact hb)
def DR.kF(h:m.zg m'){a y:Deferred}(x:DR m a y):DR m' a y:=⟨x.target.kF h,x.args.kF h⟩
def tX.kF(h:m.zg m'){a y:MapEntry}(x:tX m a y):tX m' a y:=⟨x.key.kF h,x.val.kF h,x.born⟩
def xm.kF(h:m.zg m'){a y:Loop}(x:xm m a y):xm m' a y:=
 ⟨x.state,x.pending,λc O=>by rw[h.ok];exact x.US c O,x.fn,x.tmps.kF h,x.params,x.assign,x.body,by rw[h.ok];exact x.Ul,by rw[h.ok];exact x.xH,by rw[h.blk];exact x.defers⟩
def OR.kF(h:m.zg m'){a O:Obj}(x:OR m a O):OR m' a O:=by
 cases x with
 |cells e f f' U=>exact .cells e f f' (U.kF h)|map clock W=>exact .map clock (dT.mono (λ_ _ y=>y.kF h) W)|number l Y=>exact .number l (Y.kF h)|stringIter s p=>exact .stringIter s p|gm a b c=>exact .gm a b c|mapIter a b c hb=>exact .mapIter a b c (by rw[h.blk];exact hb)|loop hl=>exact .loop (hl.kF h)|fe=>exact .fe|deferred hd=>exact .deferred (dT.mono (λ_ _ y=>y.kF h) hd)
def oq.kF(h:m.zg m'){T:List Frame}{os:List OF}{l:List Frame}(x:oq m T os l):oq m' T os l:=by
 induction x with
 |nil=>exact .nil|cons y _ O=>exact .cons (y.kF h) O
end
def RV:Obj->Obj
 |.cells c e _=>.cells c e (0,c.size)|o=>o
def uR(w:World)(caps:List Nat):World:={w with heap:=w.heap.mapIdx λi o=>if i∈caps then RV o else o}
def Ren.Be(m:Ren)(caps:List Nat):Ren:={m with loose:=λr=>m.loose r\/r∈caps}
def Ren.CJ(m:Ren)(caps:List Nat):m.zg (m.Be caps):=⟨rfl,rfl,rfl,rfl,rfl,rfl,rfl,rfl,rfl⟩
def Dl(w:World)(caps:List Nat)(r:Nat):(uR w caps).heap[r]?=(w.heap[r]?).map λo=>if r∈caps then RV o else o:=by
 unfold uR;simp only[Array.getElem?_mapIdx]
def AL(w:World)(caps:List Nat):(uR w caps).heap.size=w.heap.size:=by simp[uR]
def sL(w:World)(h:r ∉ caps):(uR w caps).heap[r]?=w.heap[r]?:=by
 rw[Dl];cases w.heap[r]?<;>simp[h]
def Ed(w:World)(h:r∈caps){e:aD}{f:Nat×Nat}(y:w.heap[r]?=some (.cells c e f)):(uR w caps).heap[r]?=some (.cells c e (0,c.size)):=by
 rw[Dl,y];simp[h,RV]
def WR.Be{m:Ren}{wl w:World}(h:WR m wl w)(hc:∀r∈caps,∃c e f,wl.heap[r]?=some (.cells c e f))(hd:∀r∈caps,¬m.dead r):WR (m.Be caps) (uR wl caps) w:=by
 have kF:=m.CJ caps
 have back:∀r c e f,(uR wl caps).heap[r]?=some (.cells c e f)->∃f0,wl.heap[r]?=some (.cells c e f0)/\(r ∉ caps->f0=f)/\(r∈caps->f=(0,c.size)):=by
  intro r c e f Y;by_cases O:r∈caps;obtain⟨c0,e0,f0,U⟩:=hc r O;rw[Ed wl O U]at Y;cases Y;exact⟨f0,U,λx=>absurd O x,λ_=>rfl⟩;rw[sL wl O]at Y;exact⟨f,Y,λ_=>rfl,λx=>absurd x O⟩
 refine⟨λr r' hb=>?_,λr r' c e f c' e' f' hb h1 h2 hn=>?_,λr r' c e f c' e' f' hb h1 h2 hl=>?_,λr r' hb=>?_,?_,h.Ld,h.os,λr o ho=>?_,λr r' hb hl=>?_,λr Y=>?_,λr i v hv=>?_⟩;obtain⟨o,o',g1,g2,g3⟩:=h.obj r r' hb;by_cases O:r∈caps;obtain⟨c0,e0,f0,U⟩:=hc r O;rw[U]at g1;cases g1
 cases g3 with
 |cells _ _ f' aa=>exact⟨_,_,Ed wl O U,g2,.cells _ _ _ (aa.kF kF)⟩
 exact⟨o,o',by rw[sL wl O];exact g1,g2,g3.kF kF⟩;obtain⟨f0,U,x,_⟩:=back r c e f h1;have W:=λy=>hn (.inr y);rw[<-x W];exact h.fz r r' c e f0 c' e' f' hb U h2 λy=>hn (.inl y);obtain⟨f0,U,x,y⟩:=back r c e f h1;by_cases O:r∈caps;rw[y O];exact λo ho=>⟨b5 _,ho⟩;rw[<-x O];exact h.all r r' c e f0 c' e' f' hb U h2 (hl.resolve_right O);have:=h.NQ r r' hb;exact⟨by rw[AL];exact this.1,this.2⟩;rw[AL];exact h.NM;obtain⟨g1,g2⟩:=h.lz r o ho;refine⟨?_,g2⟩
 have W:r ∉ caps:=λO=>by
  obtain⟨c0,e0,f0,U⟩:=hc r O;obtain⟨a,b,c,d,e,f,rfl⟩:=g2;rw[U]at g1;cases g1
 rw[sL wl W];exact g1;by_cases O:r∈caps;obtain⟨c0,e0,f0,U⟩:=hc r O;exact⟨_,_,_,Ed wl O U⟩;obtain⟨c0,e0,f0,U⟩:=h.lk r r' hb (hl.resolve_right O);exact⟨_,_,_,by rw[sL wl O];exact U⟩;obtain⟨g1,c0,e0,f0,g⟩:=h.dead r Y;have W:=λO=>hd r O Y;exact⟨g1,c0,e0,f0,by rw[sL wl W];exact g⟩;obtain⟨r',hb,hp⟩:=h.sW r i v hv;refine⟨r',hb,λc e f c' e' f' x g1 g2=>?_⟩;obtain⟨f0,U,_,_⟩:=back r c e f g1;exact hp c e f0 c' e' f' x U g2
variable {c i:Nat} {B:Nat->Nat} {M:Option Nat}
def Uj:Obj:=.cells #[] 0 (0,0)
def Lf(C:Nat->Obj)(ch ex:Obj):Array Obj:=#[Uj,Uj,Uj,Uj,Uj,C 0,C 1,C 2,C 3,Uj,ch,ex]
def IW(B:Nat->Nat)(M:Option Nat)(r:Nat):Option Nat:=if 5<=r/\r<9 then some (B (r-5))else if r=11 then M else none
structure Vv(B:Nat->Nat)(M:Option Nat):Prop where
 low:∀i,i<4->5<=B i
 inj:∀i j,i<4->j<4->B i=B j->i=j
 V5:∀b,M=some b->5<=b
 VU:∀b i,M=some b->i<4->B i≠b
def ik{r b:Nat}(h:IW B M r=some b):(∃i,i<4/\r=5+i/\b=B i)\/(r=11/\M=some b):=by
 unfold IW at h;split at h;exact .inl ⟨r-5,by omega,by omega,(Option.some.inj h).symm⟩;split at h;rename_i y;exact .inr ⟨y,h⟩
 cases h
def MW(B:Nat->Nat)(M:Option Nat)(hi:i<4):IW B M (5+i)=some (B i):=by
 unfold IW;rw[if_pos (by omega)];congr 2;omega
def AZ{B:Nat->Nat}{M:Option Nat}(h:Vv B M)(c:Nat)(ch:Obj):Ren where
 blk:=IW B M
 ch:=λr=>if r=10 then some c else none
 loose:=λr=>5<=r/\r<9
 ok:=OW prog uE DF false
 fF:=λf=>uE f=true
 iq:=False
 dead:=λr=>r=9
 dm:=λ_=>0
 sW:=λ_ _=>none
 lz:=λr=>if r=10 then some ch else none
 G:=5
 po:=λr r' y=>by
  rcases ik y with⟨i,hi,rfl,rfl⟩|⟨rfl,O⟩
  .have:=h.low i hi
   constructor<;>intro x<;>omega
  .have:=h.V5 r' O
   constructor<;>intro x<;>omega
 inj:=λr s t y U=>by
  rcases ik y with⟨i,hi,rfl,rfl⟩|⟨rfl,O⟩
  .rcases ik U with⟨j,W,rfl,e⟩|⟨rfl,O⟩
   .rw[h.inj i j hi W e]
   .exact absurd rfl (h.VU _ i O hi)
  .rcases ik U with⟨j,W,rfl,rfl⟩|⟨rfl,_⟩
   .exact absurd rfl (h.VU _ j O W)
   .rfl
 vF:=λr s t y U=>by
  split at y
  .split at U
   .rename_i Y e2;rw[Y,e2]
   .cases U
  .cases y
def Ov(h:Vv B M)(c:Nat)(ch:Obj):lZ prog (AZ h c ch) (λg=>DF g=true) false:=R3 rfl rfl rfl
def CK(C:Nat->Obj)(ch ex:Obj)(hi:i<4):(Lf C ch ex)[5+i]?=some (C i):=by
 match i,hi with
 |0,_=>rfl|1,_=>rfl|2,_=>rfl|3,_=>rfl
def WR.TE(h:Vv B M){C:Nat->Obj}{cap:Nat}{ex:Obj}{W w:World}(U:W.heap=Lf C (.chan cap #[] false 0 0 false) ex)(ab:w.os=W.os)(ac:5<=w.heap.size)(hc:c<w.heap.size)
  (O:∀i,i<4->∃a Y e f',C i=.cells a e (0,a.size)/\w.heap[B i]?=some (.cells Y e f')/\eD (AZ h c (.chan cap #[] false 0 0 false)) a Y)
  (hM:∀b,M=some b->∃o',w.heap[b]?=some o'/\OR (AZ h c (.chan cap #[] false 0 0 false)) ex o'/\∀a e f,ex≠.cells a e f):WR (AZ h c (.chan cap #[] false 0 0 false)) W w:=by
 have get:∀i,i<4->W.heap[5+i]?=some _:=λi hi=>by rw[U];exact CK C _ ex hi
 have aa:W.heap[11]?=some ex:=by rw[U];rfl
 refine⟨λr r' y=>?_,λr r' c1 e1 f1 c2 e2 f2 y h1 h2 hn=>?_,λr r' c1 e1 f1 c2 e2 f2 y h1 h2 hl=>?_,λr r' y=>?_,(by rw[U];show 5<=12;omega),ac,ab,λr o y=>?_,λr r' y hl=>?_,λr y=>?_,λr i v hv=>(by cases hv)⟩;rcases ik y with⟨i,hi,rfl,rfl⟩|⟨rfl,hm⟩
 obtain⟨a,Y,e,f',x1,x2,x3⟩:=O i hi;exact⟨_,_,by rw[get i hi,x1],x2,.cells e _ f' x3⟩;obtain⟨o',x1,x2,_⟩:=hM r' hm;exact⟨_,_,aa,x1,x2⟩;rcases ik y with⟨i,hi,rfl,rfl⟩|⟨rfl,hm⟩
 exact absurd (show(AZ h c _).loose _ from⟨by omega,by omega⟩) hn;rw[aa]at h1;obtain⟨_,_,_,x⟩:=hM r' hm;cases h1;exact absurd rfl (x _ _ _);rcases ik y with⟨i,hi,rfl,rfl⟩|⟨rfl,hm⟩
 obtain⟨a,Y,e,f',x1,x2,x3⟩:=O i hi;rw[get i hi,x1]at h1;cases h1;exact λo ho=>⟨b5 _,ho⟩;exact absurd hl.2 (by omega);have y:(if r=10 then some c else none)=some r':=y;split at y;rename_i e;cases y;exact⟨by rw[U,e];show 10<12;omega,hc⟩
 cases y;have y:(if r=10 then some _ else none)=some o:=y;split at y;rename_i e;cases y;exact⟨by rw[U,e];rfl,_,_,_,_,_,_,rfl⟩
 cases y;rcases ik y with⟨i,hi,rfl,rfl⟩|⟨rfl,hm⟩
 obtain⟨a,Y,e,f',x1,x2,x3⟩:=O i hi;exact⟨_,_,_,by rw[get i hi,x1]⟩;exact absurd hl.2 (by omega);have e:=y;subst e;exact⟨by simp[AZ,IW],_,_,_,by rw[U];rfl⟩
def Qm(P:Program)(f:a9)(L:List Value)(y:World->Prop)(S:LS):Prop:=S.cs=[door P]/\S.fr.mode=.returning/\S.fr.defers=[⟨.collected 9,#[.chan (some 10)]⟩]/\S.fr.fn=f/\Holds S 10 L/\y S.w
def Ty(P:Program)(f:a9)(L:List Value)(c:Nat)(y:World->Prop)(l6:Nat->Nat->Obj->Prop):mW where
 gl:=λg=>DF g=true
 T:=[xN P]
 Stop:=Qm P f L y
 r:=10
 c:=c
 rd:=9
 L:=L
 l6:=l6
def Rt{f:a9}{L:List Value}{y:World->Prop}{l6:Nat->Nat->Obj->Prop}{gP:Func}(hf:prog.funcs[f]?=some gP)(hr:gP.results=#[])(hn:gP.norace=false)(hb:∀w τ,y (tp w τ)->y w)(hk:∀w,y w->∀r b o,l6 r b o->w.heap[r]?=some o/\∀(m:Ren)o',OR m o o'->o'=o):(Ty prog f L c y l6).Ok prog where
 blind:=λS τ ⟨O,U,W,Y,h5,h6⟩=>⟨O,U,W,Y,h5,hb _ _ h6⟩
 holds:=λS h=>h.2.2.2.2.1;U7:=λS ⟨O,U,W,Y,_⟩=>⟨O,U,W,gP,by rw[Y];exact hf,hr,hn⟩;back:=λS h r b o x=>hk S.w h.2.2.2.2.2 r b o x
 VV:=⟨xN prog,rfl,rfl,rfl,by
  show prog.funcs[prog.funcs.size]?=none
  simp,rfl⟩
end
section
open Go.Conc
variable {m:Ren}
def xB(b:Nat->Nat):Array Value:=#[.pointer (some ⟨b 0,0,none⟩),.pointer (some ⟨b 1,0,none⟩),.pointer (some ⟨b 2,0,none⟩),.pointer (some ⟨b 3,0,none⟩)]
def PH(b:Nat->Nat){i:Nat}(hi:i<4):(xB b)[i]?=some (.pointer (some ⟨b i,0,none⟩)):=by
 match i,hi with
 |0,_=>rfl|1,_=>rfl|2,_=>rfl|3,_=>rfl
def PI{b B:Nat->Nat}(h:∀i,i<4->m.blk (b i)=some (B i)):eD m (xB b) (xB B):=
 .cons (.ptr (.mk (h 0 (by omega)))) (.cons (.ptr (.mk (h 1 (by omega)))) (.cons (.ptr (.mk (h 2 (by omega)))) (.cons (.ptr (.mk (h 3 (by omega)))) .nil)))
def Qt{b:Nat->Nat}{y:Array Value}(h:eD m (xB b) y):∃B:Nat->Nat,y=xB B/\∀i,i<4->m.blk (b i)=some (B i):=by
 have O:=h.size
 have get:∀i,i<4->∃B,y[i]?=some (.pointer (some ⟨B,0,none⟩))/\m.blk (b i)=some B:=by
  intro i hi;obtain⟨v',U,W⟩:=h.get (PH b hi)
  cases W with
  |ptr Y=>
   cases Y with
   |mk hb=>exact⟨_,U,hb⟩
 obtain⟨B0,a0,e0⟩:=get 0 (by omega);obtain⟨B1,a1,e1⟩:=get 1 (by omega);obtain⟨B2,a2,e2⟩:=get 2 (by omega);obtain⟨B3,a3,e3⟩:=get 3 (by omega);refine⟨λi=>match i with|0=>B0|1=>B1|2=>B2|_=>B3,?_,λi hi=>?_⟩;apply bf;intro i;match i with
 |0=>rw[a0];rfl|1=>rw[a1];rfl|2=>rw[a2];rfl|3=>rw[a3];rfl|i+4=>
  have:y.size=4:=O.symm;rw[aY (by omega),aY (by show 4<=i+4;omega)]
 match i,hi with
 |0,_=>exact e0|1,_=>exact e1|2,_=>exact e2|3,_=>exact e3
def Rg.Be{P:Program}{E E₂:Env P}(h:Rg E m)(caps:List Nat)(y:∀m:Ren,m.ok=E₂.ok->m.fF=E₂.fF->m.G=P.globals.size->lZ P m E₂.gl E₂.st)(O:E₂.fF=E.fF)(U:E₂.ok=E.ok)(W:E₂.X (m.Be caps)):Rg E₂ (m.Be caps):=
 ⟨y _ (h.Um.trans U.symm) (h.fF.trans O.symm) h.qf.env.G,h.iq,h.mT,h.fF.trans O.symm,h.Um.trans U.symm,W⟩
structure Wk(E E₂:Env prog)(wl:World)(rc:Nat)(b:Nat->Nat)(cm cd:Nat->Array Value)(te:Nat->aD)(fz:Nat->Nat×Nat)(M:Option Nat)(ex:Obj):Prop where
 z:E₂.Z=E.Z
 t:E₂.T=E.T
 w:E₂.w0=E.w0
 fF:E₂.fF=E.fF
 ok:E₂.ok=E.ok
 qf:∀m:Ren,m.ok=E₂.ok->m.fF=E₂.fF->m.G=prog.globals.size->lZ prog m E₂.gl E₂.st
 x:∀m,Rg E m->E₂.X (m.Be [b 0,b 1,b 2,b 3])
 fix:∀q,E₂.fK q↔E.fK q/\M≠some q
 low:∀i,i<4->5<=b i
 inj:∀i j,i<4->j<4->b i=b j->i=j
 cells:∀i,i<4->wl.heap[b i]?=some (.cells (cm i) (te i) (fz i))
 live:∀m,Rg E m->∀i,i<4->¬m.dead (b i)
 m0:cm 0=#[.chan (some rc)]
 d0:cd 0=#[.chan (some 10)]
 conv:∀i,1<=i->i<4->∀(m mi:Ren)w a',Rg E m->WR m wl w->(∀q,M=some q->mi.blk 11=some q)->eD m (cm i) a'->eD mi (cd i) a'
 map:∀q,M=some q->5<=q/\E.fK q/\E.w0.heap[q]?=some ex/\(∀m:Ren,OR m ex ex)/\(∀(m:Ren)o',OR m ex o'->o'=ex)/\(∀a e f,ex≠.cells a e f)/\∀(m:Ren)(r:Nat)(o:Obj),wl.heap[r]?=some o->¬OR m o ex
def tU(wl:World)(cd:Nat->Array Value)(te:Nat->aD)(cap:Nat)(ex:Obj):World:={wl with heap:=Lf (λi=>.cells (cd i) (te i) (0,(cd i).size)) (.chan cap #[] false 0 0 false) ex}
def vn(f:a9)(n:Nat)(s:Tmp)(rest:Code):Frame:=⟨f,(xB (λi=>5+i)++aX (n-4) bJ).setIfInBounds s (.chan (some 10)),[.code rest],[⟨.collected 9,#[.chan (some 10)]⟩],.run,.normal,none⟩
def Fv{E E₂:Env prog}{f:a9}{gP:Func}{s:Tmp}{ty:aD}{ops:Array Oper}{rest:Code}{wl:World}{rc:Nat}{b:Nat->Nat}{cm cd:Nat->Array Value}{te:Nat->aD}{fz:Nat->Nat×Nat}{M:Option Nat}{ex:Obj}{L:List Value}{cap:Nat}{os:List OF}
  (hc:zJ prog f gP s ty ops rest) (ao:gP.results=#[]) (ap:gP.norace=false) (aw:s≠0) (hs:s<gP.ntmps) (hn:4<=gP.ntmps) (ax:jE (λo=>EB prog uE DF false o.op) rest=true) (hL:∀v∈L,Flat v) (y:Wk E E₂ wl rc b cm cd te fz M ex)
  (aq:∀τ,∃n W,runN prog n (aN (vn f gP.ntmps s rest) [door prog] (tp (tU wl cd te cap ex) τ))=.next (LS.m W)/\Qm prog f L (λw=>M=none\/w.heap[11]?=some ex) W) :
  Sends E E₂ f (xB b) os os wl (uR wl [b 0,b 1,b 2,b 3]) rc L:=by
 refine⟨y.z,y.t,y.w,λq Y=>((y.fix q).1 Y).1,λv hv=>(hL v hv).eq,λm ay w c aa af hw az ar ab=>?_⟩;obtain⟨B,rfl,hB⟩:=Qt af;have hG:m.G=5:=by rw[aa.qf.env.G,zN]
 have ag:∀r,r∈[b 0,b 1,b 2,b 3]↔∃i,i<4/\r=b i:=by
  intro r;constructor;intro h;simp only[bs,br,or_false]at h;rcases h with h|h|h|h
  exact⟨0,by omega,h⟩;exact⟨1,by omega,h⟩;exact⟨2,by omega,h⟩;exact⟨3,by omega,h⟩;rintro⟨i,hi,rfl⟩;match i,hi with
  |0,_=>simp|1,_=>simp|2,_=>simp|3,_=>simp
 have ah:∀q,M=some q->∀r,m.blk r≠some q:=by
  intro q Y r O;obtain⟨_,U,h3,_,_,_,h7⟩:=y.map q Y;obtain⟨o,o',e1,e2,e3⟩:=hw.obj r q O;rw[ab q U,h3]at e2;cases e2;exact h7 m r o e1 e3
 have hS:Vv B M:=by
  refine⟨λi hi=>?_,λi j hi hj e=>?_,λq Y=>(y.map q Y).1,λq i Y hi e=>?_⟩;have:=(m.po (b i) (B i) (hB i hi)).2;rw[hG]at this;have h5:=y.low i hi;apply Classical.byContradiction;intro hx;have:=this (by omega);omega;exact y.inj i j hi hj (m.inj _ _ _ (hB i hi) (e▸hB j hj));exact ah q Y (b i) (e▸hB i hi)
 let mi:=AZ hS c (.chan cap #[] false 0 0 false);have ac:∀q,M=some q->mi.blk 11=some q:=λq Y=>by simp[mi,AZ,IW,Y]
 have ad:mi.ch 10=some c:=by simp[mi,AZ]
 have au:c<w.heap.size:=by
  obtain⟨s,r,hx⟩:=ar;exact jY hx
 have ai:∀i,i<4->∃a',∃f',w.heap[B i]?=some (.cells a' (te i) f')/\eD m (cm i) a':=by
  intro i hi;obtain⟨o,o',h1,U,h3⟩:=hw.obj (b i) (B i) (hB i hi);rw[y.cells i hi]at h1;cases h1
  cases h3 with
  |cells _ _ f' ha=>exact⟨_,f',U,ha⟩
 have aj:∀i,i<4->∀a',eD m (cm i) a'->eD mi (cd i) a':=by
  intro i hi a' ha;by_cases h0:i=0;subst h0;rw[y.m0]at ha;rw[y.d0];obtain⟨al⟩:=a';unfold eD at ha⊢;simp only at ha⊢
  cases ha with
  |cons hv hn=>
   cases hn
   cases hv with
   |chan hb=>
    rw[az]at hb;cases hb;exact .cons (.chan ad) .nil
  exact y.conv i (by omega) hi m mi w a' aa hw ac ha
 have a5:WR mi (tU wl cd te cap ex) w:=by
  refine WR.TE (C:=λi=>.cells (cd i) (te i) (0,(cd i).size)) (ex:=ex) hS rfl hw.os (by have:=hw.Ld;omega) au (λi hi=>?_) (λq Y=>?_);obtain⟨a',f',h1,U⟩:=ai i hi;exact⟨cd i,a',te i,f',rfl,h1,aj i hi a' U⟩;obtain⟨_,U,h3,h4,_,h6,_⟩:=y.map q Y;exact⟨ex,by rw[ab q U,h3],h4 mi,h6⟩
 have ak:∀r r',mi.ch r=some r'->r=10:=by
  intro r r' O;have O:(if r=10 then some c else none)=some r':=O;split at O;rename_i e;exact e
  cases O
 have av:=Ov hS c (.chan cap #[] false 0 0 false)
 have ae:(Ty prog f L c (λw=>M=none\/w.heap[11]?=some ex) (λr q o=>r=11/\M=some q/\o=ex)).Ren mi:=
  ⟨ad,ak,rfl,λr q o ⟨h1,U,_⟩=>by rw[h1];exact ac q U⟩
 have am:Open mi:=λr r' O=>by
  have O:(if r=10 then some c else none)=some r':=O;split at O;rename_i e;exact⟨cap,#[],0,0,false,by simp[mi,AZ,e]⟩
  cases O
 let S:LS:=⟨vn f gP.ntmps s rest,[door prog],tU wl cd te cap ex⟩;have an:=m.CJ [b 0,b 1,b 2,b 3];refine⟨Ty prog f L c (λw=>M=none\/w.heap[11]?=some ex) (λr q o=>r=11/\M=some q/\o=ex),mi,S,5,m.Be [b 0,b 1,b 2,b 3],rfl,rfl,Rt hc.fn ao ap (λw τ h=>h) (λw hk r q o ⟨h1,U,h3⟩=>?_),ae,λτ _=>?_,?_,a5,?_,aa.Be _ y.qf y.fF y.ok (y.x m aa),hw.Be (λr O=>?_) (λr O=>?_),rfl,λl hl=>hl.kF an,λr q O=>⟨r,O,λh=>.inl h⟩,λr q O=>?_,λr r' q h1 U=>?_,λr q O hf=>?_,λq Y=>?_⟩;subst h1 h3;obtain⟨_,_,_,_,h5,_⟩:=y.map q U;exact⟨hk.resolve_left (by rw[U];simp),h5⟩;obtain⟨n,W,h1,U⟩:=aq τ;exact⟨n,W,h1,U,by rw[U.1];simp⟩;exact⟨cap,#[],0,0,false,rfl,rfl⟩;refine Bz (cap:=xB λi=>5+i) (p:=⟨5,0,none⟩) hc (by rw[hc.fn];simp[ap]) av (λh=>h) am ae rfl (PI λi hi=>MW B M hi) rfl aw hs hn ?_ (nI ax) rfl rfl;show(tU wl cd te cap ex).cell? ⟨5,0,none⟩=_
 have hg:(tU wl cd te cap ex).heap[5]?=some (.cells #[.chan (some 10)] (te 0) (0,1)):=by
  show(Lf _ _ _)[5]?=_;rw[show(5:Nat)=5+0 from rfl,CK _ _ _ (by omega:(0:Nat)<4),y.d0];rfl
 unfold World.cell?;simp only[hg];rfl;obtain⟨i,hi,rfl⟩:=(ag r).1 O;exact⟨_,_,_,y.cells i hi⟩;obtain⟨i,hi,rfl⟩:=(ag r).1 O;exact y.live m aa i hi;rcases ik O with⟨i,hi,rfl,rfl⟩|⟨rfl,hm⟩
 exact .inl ⟨b i,hB i hi,λ_=>⟨by omega,by omega⟩⟩;obtain⟨_,U,_,_,_,_,h7⟩:=y.map q hm;exact .inr ⟨U,ah q hm,λhx=>((y.fix q).1 hx).2 hm⟩;rcases ik U with⟨i,hi,rfl,rfl⟩|⟨rfl,hm⟩
 have:=m.inj _ _ _ h1 (hB i hi);exact⟨.inr ((ag r).2 ⟨i,hi,this⟩),by omega,by omega⟩;exact absurd h1 (ah q hm r);rcases ik O with⟨i,hi,rfl,rfl⟩|⟨rfl,hm⟩
 exact⟨by omega,by omega⟩;exact absurd hm ((y.fix q).1 hf).2;by_cases hm:M=some q;exact .inr ⟨11,ex,⟨rfl,hm,rfl⟩,(y.map q hm).2.2.1⟩;exact .inl ((y.fix q).2 ⟨Y,hm⟩)
open Go.RowKit
def vp(f:Func):Code:=match f.body with
 |some (.seq _ r)=>r|_=>.skip
def opsOf(f:Func):Array Oper:=match f.body with
 |some (.seq (.region _ o _) _)=>o|_=>#[]
def K1(a:Addr)(v:Value)(w:World)(h:w.cell? a=some v):(bI 167 (.pointer (some a)) >>= λv=>(pure (.value v):Sem Go.Next)).runT prog w #[]=(.ok (.value v) w,#[⟨.cell a,false,false⟩]):=by
 have y:∀w,(isAgg 167).runT prog w #[]=(.ok false w,#[]):=by intro w;kernel_rfl
 have O:(bI 167 (.pointer (some a)) >>= λv=>(pure (.value v):Sem Go.Next))=(isAgg 167 >>= λb=>((if b=true then(do pure (.agg (<-loadCells a (<-sizeOf 167))))else load a) >>= λv=>(pure (.value v)))):=by
  show(loadVar _ a >>= _)=_;unfold loadVar;rw[bind_assoc]
 rw[O];show((isAgg _).bind _).runT .. = _;rw[Sem.runT_bind',y];show(load a >>= λv=>(pure _)).runT .. = _;have U:(load a >>= λv=>(pure (.value v):Sem Go.Next))=.load _ a _:=rfl;rw[U];simp only[Sem.runT,h];rfl
def U3:zJ prog 120 f120 6 167 (opsOf f120) (vp f120):=
 ⟨by kernel_rfl,by kernel_rfl,by decide,⟨_,_,_,_,rfl⟩,K1⟩
def Vi:zJ prog 116 f116 4 167 (opsOf f116) (vp f116):=
 ⟨by kernel_rfl,by kernel_rfl,by decide,⟨_,_,_,_,rfl⟩,K1⟩
def Us:jE (λo=>EB prog uE DF false o.op) (vp f120)=true:=by kernel_rfl
def UO:jE (λo=>EB prog uE DF false o.op) (vp f116)=true:=by kernel_rfl
end
section
open Go.RowKit
def oI(i:Nat){P:Program}{ops:Array Oper}{md:Region.Mode}{Q:Exit->Act->World->Prop}{oi:Oper}{fuel:Nat}{listed:Array Bool}{C:World->Prop}{a:Act}
  (h:WX eK P md ops Q fuel (listed.setIfInBounds i true) C (a.put oi.dst bJ)) (hi:ops[i]?=some oi:=by rfl) (y:aU ops=true:=by kernel_rfl) (O:aV md ops listed i=true:=by kernel_rfl) (U:(aQ md ops listed).contains i=true:=by kernel_rfl) (hC:gM eK C:=by exact eY _)
  (W:aP oi (a6 ops a.tmps)=false:=by rfl):WX eK P md ops Q (fuel+1) listed C a:=
 H7 hi (aS y) fuel listed C a (aT hi O) (by simpa using U) hC (.inr ⟨W,rfl⟩) h
def MJ(x y:Nat)(O:x<256)(U:y<256):bits .and .i64 (x:Int) (y:Int)=((x &&& y:Nat):Int):=by
 show IntKind.i64.wrap ((BitVec.ofInt 64 x &&& BitVec.ofInt 64 y).toNat)=_;rw[BitVec.toNat_and]
 have e:∀n:Nat,n<256->(BitVec.ofInt 64 n).toNat=n:=λn W=>by
  rw[BitVec.toNat_ofInt];omega
 rw[e x O,e y U];have Y:x &&& y<=x:=Nat.and_le_left;exact Lr _ _ rfl (by omega) (by omega)
def SF(m tg:Nat)(qb:ByteArray)(nm tx:ByteArray)(wt W:Int)(w:World)(hm:m<=3)(ai:tg<256)(am:0<=W)(ao:W<=255)(hq:qb.size<=1048576)(ht:tx.size<=1048576) :
  aA prog 160 #[.agg #[.int .i64 m,.string qb,.int .i64 tg],.agg #[.string nm,.string tx,.int .i64 wt,.int .i64 W]] w λe w'=>e=.returned (.bool (oZ tg W.toNat&&kw m qb.data.toList (dX tx.data.toList)))/\Below w.heap.size w w':=by
 obtain⟨w0,aa⟩:∃w0,((w.alloc (.cells #[.int .i64 m,.string qb,.int .i64 tg] 94)).alloc (.cells #[.string nm,.string tx,.int .i64 wt,.int .i64 W] 96))=w0:=⟨_,rfl⟩;have ac:Hid (Below w.heap.size w w0):=aa▸((b6 _ _).alloc (b3 _) _).alloc (by simp) _;have q0:w0.heap[w.heap.size]?=some (.cells #[.int .i64 m,.string qb,.int .i64 tg] 94):=by rw[<-aa,b7 _ _ _ (by simp)];simp[bk,-bj]
 have q1:w0.heap[w.heap.size+1]?=some (.cells #[.string nm,.string tx,.int .i64 wt,.int .i64 W] 96):=by rw[<-aa];simp[bk,-bj,Array.getElem_push]
 have d0:=dn q0 0;have d1:=dn q0 1;have d2:=dn q0 2;have d3:=dn q1 3;have d4:=dn q1 1;simp at d0 d1 d2 d3 d4;clear q0 q1;have HW:Hid _:=aa;clear aa;go_enter func160,ntmps160;go_wp2_with fail;rw[HW.out];clear HW;obtain⟨fb,ad⟩:∃fb,fb=kw m qb.data.toList (dX tx.data.toList):=⟨_,rfl⟩;obtain⟨kb,ae⟩:∃kb:ByteArray,kb=⟨(dX tx.data.toList).toArray⟩:=⟨_,rfl⟩
 have ah:kb.size<=1048576:=by
  rw[ae];show(dX tx.data.toList).toArray.size<=_;rw[List.size_toArray,fH];simp;omega
 have aj:Hid (∀y:World,aA prog 50 #[.string tx] y λe w'=>e=.returned (.string kb)/\eK y w'):=λy=>by rw[ae];exact pW tx y (by omega)
 have ak:Hid (∀y:World,aA prog 215 #[.int .i64 m,.string qb,.string kb] y λe w'=>e=.returned (.bool fb)/\eK y w'):=λy=>by
  have h:=M5 m qb kb y hm hq ah;have e1:kb.data.toList=dX tx.data.toList:=by rw[ae]
  rw[e1,<-ad]at h;exact h
 have U:=MJ W.toNat tg (by omega) ai;rw[show((W.toNat:Nat):Int)=W by omega]at U;clear ae ah hm hq ht;by_cases Y:W.toNat &&& tg=tg
 .have al:bits .and .i64 W (tg:Int)=(tg:Int):=by rw[U,Y]
  have ab:Hid (fb=(oZ tg W.toNat&&kw m qb.data.toList (dX tx.data.toList))):=by
   show _=_;unfold oZ;rw[Y,<-ad];simp
  clear U Y ad;refine jN (by kernel_rfl) ?_;refine dy 0 ?_ ?_<|dy 1 ?_ ?_<|dy 2 ?_ ?_<|dy 3 ?_ ?_<|dy 4 ?_ ?_<|dy 5 ?_ ?_<|dy 6 ?_ ?_<|dy 7 ?_ ?_<|dy 8 ?_ ?_ ?_
  any_goals(intro y O;have q:=a4 O d3;have q1:=a4 O d2;unfold fT;go_simp;refine⟨eK.refl _,?_⟩;with_reducible rfl)
  go_simp;refine dy 9 ?_ ?_ ?_
  any_goals(intro y O;have q:=a4 O d0;have q1:=a4 O d1;have q2:=a4 O d4;unfold fT;go_simp;refine⟨eK.refl _,?_⟩;with_reducible rfl)
  go_simp;refine dy 10 ?_ ?_ ?_
  any_goals(intro y O;have q:=a4 O d0;have q1:=a4 O d1;have q2:=a4 O d4;unfold fT;go_simp;refine⟨eK.refl _,?_⟩;with_reducible rfl)
  go_simp;refine dy 11 ?_ ?_ ?_
  any_goals(intro y O;have q:=a4 O d0;have q1:=a4 O d1;have q2:=a4 O d4;unfold fT;go_simp;refine⟨eK.refl _,?_⟩;with_reducible rfl)
  go_simp;refine dy 12 ?_ ?_ ?_
  any_goals(intro y O;have q:=a4 O d0;have q1:=a4 O d1;have q2:=a4 O d4;unfold fT;go_simp;refine⟨eK.refl _,?_⟩;with_reducible rfl)
  go_simp;refine dy 13 ?_ ?_ ?_
  any_goals(intro y O;have q:=a4 O d0;have q1:=a4 O d1;have q2:=a4 O d4;unfold fT;go_simp;refine⟨eK.refl _,?_⟩;with_reducible rfl)
  go_simp;refine dy 14 ?_ ?_ ?_
  any_goals(intro y O;have q:=a4 O d0;have q1:=a4 O d1;have q2:=a4 O d4;unfold fT;go_simp;refine⟨eK.refl _,?_⟩;with_reducible rfl)
  go_simp;refine dy 15 ?_ ?_ ?_;rotate_left
  .intro y O;unfold fT;go_simp;refine⟨rfl,(aj.out y).mono ?_⟩;rintro e y2 ⟨rfl,h2⟩;refine⟨_,rfl,h2,?_⟩;with_reducible rfl
  go_simp;refine dy 16 ?_ ?_ ?_;rotate_left
  .intro y O;unfold fT;go_simp;refine⟨rfl,(ak.out y).mono ?_⟩;rintro e y2 ⟨rfl,h2⟩;refine⟨_,rfl,h2,?_⟩;with_reducible rfl
  go_simp;refine dy 17 ?_ ?_<|dy 18 ?_ ?_ ?_
  any_goals(intro y O;unfold fT;go_simp;refine⟨eK.refl _,?_⟩;with_reducible rfl)
  refine sP (by kernel_rfl) ?_ _;intro y O;have ag:Hid (Below w.heap.size w y):=ac.out.trans (Below.mono O ac.out.size);clear O;go_simp;go_wp2;go_ret;exact⟨eO ab.out,ag.out⟩
 obtain⟨an,af⟩:∃an:Nat,an=W.toNat &&& tg:=⟨_,rfl⟩;have al:bits .and .i64 W (tg:Int)=(an:Int):=by rw[U,af]
 have aq:((an:Int)==(tg:Int))=false:=by rw[beq_eq_false_iff_ne];rw[af];omega
 have ap:¬an=tg:=by rw[af];exact Y
 have ab:Hid (false=(oZ tg W.toNat&&kw m qb.data.toList (dX tx.data.toList))):=by
  show _=_;unfold oZ;rw[beq_eq_false_iff_ne.2 Y];rfl
 clear U Y ad af;refine jN (by kernel_rfl) ?_;refine dy 0 ?_ ?_<|dy 1 ?_ ?_<|dy 2 ?_ ?_<|dy 3 ?_ ?_<|dy 4 ?_ ?_<|dy 5 ?_ ?_<|dy 6 ?_ ?_<|dy 7 ?_ ?_<|dy 8 ?_ ?_ ?_
 any_goals(intro y O;have q:=a4 O d3;have q1:=a4 O d2;unfold fT;go_simp;refine⟨eK.refl _,?_⟩;with_reducible rfl)
 go_simp;refine oI 9 ?_;go_simp;refine oI 10 ?_;go_simp;refine oI 11 ?_;go_simp;refine oI 12 ?_;go_simp;refine oI 13 ?_;go_simp;refine oI 14 ?_;go_simp;refine oI 15 ?_;go_simp;refine oI 16 ?_;go_simp;refine dy 17 ?_ ?_<|dy 18 ?_ ?_ ?_
 any_goals(intro y O;unfold fT;go_simp;refine⟨eK.refl _,?_⟩;with_reducible rfl)
 refine sP (by kernel_rfl) ?_ _;intro y O;have ag:Hid (Below w.heap.size w y):=ac.out.trans (Below.mono O ac.out.size);clear O;go_simp;go_wp2;go_ret;exact⟨eO ab.out,ag.out⟩
def kK(w:World)(o:Obj){k:Nat}(h:k=w.heap.size):(w.alloc o).heap[k]?=some o:=by
 subst h;show(w.heap.push o)[w.heap.size]?=some o;simp
def iM(w:World)(o:Obj){k:Nat}(h:k<w.heap.size):(w.alloc o).heap[k]?=w.heap[k]?:=by
 exact b7 w o k h
def B8(k at':Int)(nm:ByteArray)(b:Bool)(n2 tx:ByteArray)(wt y:Int):Value:=.agg #[.int .i64 k,.int .i64 at',.string nm,.bool b,.string n2,.string tx,.int .i64 wt,.int .i64 y]
def Oc:ByteArray:=⟨#[]⟩
def Gf(k at':Int)(nm:ByteArray)(g:Bool)(n2 tx:ByteArray)(wt W:Int)(m tg:Nat)(Y:ByteArray)(w:World)(hm:m<=3)(ac:tg<256)(aa:g=false->0<=W/\W<=255)(hq:Y.size<=1048576)(ht:tx.size<=1048576) :
  aA prog 119 #[.agg #[.int .i64 k,.int .i64 at'],.string nm,.agg #[.bool g,.string n2,.string tx,.int .i64 wt,.int .i64 W],.agg #[.int .i64 m,.string Y,.int .i64 tg]] w λe w'=>
   e=.returned (if(!g&&(oZ tg W.toNat&&kw m Y.data.toList (dX tx.data.toList)))=true then B8 k at' nm true n2 tx wt W else B8 k at' nm false Oc Oc 0 0)/\Below w.heap.size w w':=by
 obtain⟨b,hb⟩:∃b,b=(oZ tg W.toNat&&kw m Y.data.toList (dX tx.data.toList)):=⟨_,rfl⟩
 have HC:Hid (g=false->∀y:World,aA prog 160 #[.agg #[.int .i64 m,.string Y,.int .i64 tg],.agg #[.string n2,.string tx,.int .i64 wt,.int .i64 W]] y λe w'=>e=.returned (.bool b)/\Below y.heap.size y w'):=λhg y=>by
  rw[hb];exact SF m tg Y n2 tx wt W y hm ac (aa hg).1 (aa hg).2 hq ht
 rw[<-hb];clear hb hm ac aa hq ht;obtain⟨w0,U⟩:∃w0,w0=(((w.alloc (.cells #[.int .i64 k,.int .i64 at'] 170)).alloc (.cells #[.bool g,.string n2,.string tx,.int .i64 wt,.int .i64 W] 111)).alloc (.cells #[.int .i64 m,.string Y,.int .i64 tg] 94)).alloc (.cells #[.int .i64 0,.int .i64 0,.string ⟨#[]⟩,.bool false,.string ⟨#[]⟩,.string ⟨#[]⟩,.int .i64 0,.int .i64 0] 172):=⟨_,rfl⟩;have hz:w0.heap.size=w.heap.size+4:=by rw[U];simp
 have hB:Below w.heap.size w w0:=by rw[U];exact((((b6 _ _).alloc (b3 _) _).alloc (by simp) _).alloc (by simp;omega) _).alloc (by simp;omega) _
 have g0:w0.heap[w.heap.size]?=some (.cells #[.int .i64 k,.int .i64 at'] 170 (0,0)):=by rw[U];(repeat(first|(rw[kK _ _ (by simp only[bh])];done)|rw[iM _ _ (by simp only[bh];omega)]))
 have g1:w0.heap[w.heap.size+1]?=some (.cells #[.bool g,.string n2,.string tx,.int .i64 wt,.int .i64 W] 111 (0,0)):=by rw[U];(repeat(first|(rw[kK _ _ (by simp only[bh])];done)|rw[iM _ _ (by simp only[bh];omega)]))
 have g2:w0.heap[w.heap.size+1+1]?=some (.cells #[.int .i64 m,.string Y,.int .i64 tg] 94 (0,0)):=by rw[U];(repeat(first|(rw[kK _ _ (by simp only[bh])];done)|rw[iM _ _ (by simp only[bh];omega)]))
 have g3:w0.heap[w.heap.size+1+1+1]?=some (.cells #[.int .i64 0,.int .i64 0,.string ⟨#[]⟩,.bool false,.string ⟨#[]⟩,.string ⟨#[]⟩,.int .i64 0,.int .i64 0] 172 (0,0)):=by rw[U];(repeat(first|(rw[kK _ _ (by simp only[bh])];done)|rw[iM _ _ (by simp only[bh];omega)]))
 go_enter func119,ntmps119;go_upto_region 1 with fail;rw[<-U];obtain⟨B0,ad⟩:∃B,B=w.heap.size:=⟨_,rfl⟩;obtain⟨B3,ae⟩:∃B,B=w.heap.size+1+1+1:=⟨_,rfl⟩;obtain⟨B2,af⟩:∃B,B=w.heap.size+1+1:=⟨_,rfl⟩;obtain⟨B1,ag⟩:∃B,B=w.heap.size+1:=⟨_,rfl⟩;rw[<-ae]at g3⊢;rw[<-af]at g2⊢;rw[<-ag]at g1⊢;rw[<-ad]at g0⊢;have HB:Hid _:=hB;have HN:Hid (B0<w0.heap.size/\B1<w0.heap.size/\B2<w0.heap.size/\B3<w0.heap.size/\w.heap.size<=B3):=⟨by omega,by omega,by omega,by omega,by omega⟩;clear U hB ad ag af ae hz;cases g
 .have c0:w0.cell? ⟨B1,0,none⟩=some (.bool false):=by rw[dn g1];rfl
  have c1:=dn g1;have c5:=dn g2;go_upto_if 17 with(go_at_call 160;refine(HC.out rfl _).mono ?_;rintro e y ⟨rfl,hy⟩);have ah:=(hy.block B0 HN.out.1).trans g0;have ai:=(hy.block B1 HN.out.2.1).trans g1;have ab:=(hy.block B3 HN.out.2.2.2.1).trans g3;have HY:Hid (Below w.heap.size w y):=HB.out.trans (Below.mono hy HB.out.size);clear c0 c1 c5 hy HC g0 g1 g2 g3 HB;have c0:=dn ah;have c2:=dn ai;have aj:=dO ab;have jP:=dn ab;have e0:=dn ab;have O:=HN.out.2.2.2.2;cases b
  .go_wp2;refine aK (v:=B8 k at' nm false Oc Oc 0 0) (by simp[aM,results119,go_sem,e0,B8,Oc]) rfl ⟨rfl,((((((((HY.out.setCell O _).setCell O _).setCell O _).setCell O _).setCell O _).setCell O _).setCell O _).setCell O _)⟩
  go_wp2;refine aK (v:=B8 k at' nm true n2 tx wt W) (by simp[aM,results119,go_sem,e0,B8,Oc]) rfl ⟨rfl,((((((((HY.out.setCell O _).setCell O _).setCell O _).setCell O _).setCell O _).setCell O _).setCell O _).setCell O _)⟩
 have c0:w0.cell? ⟨B0,0,none⟩=some (.int .i64 k):=by rw[dn g0];rfl
 have c1:=dn g0 1;have c2:=dn g1 0;have aj:=dO g3;have jP:=dn g3;have e0:=dn g3;have O:=HN.out.2.2.2.2;clear HC;go_wp2;refine aK (v:=B8 k at' nm false Oc Oc 0 0) (by simp[aM,results119,go_sem,e0,B8,Oc]) rfl ⟨rfl,((((((((HB.out.setCell O _).setCell O _).setCell O _).setCell O _).setCell O _).setCell O _).setCell O _).setCell O _)⟩
end
section
open Go.Conc
def nM:Item->Item
 |.code y=>.code (BQ y)|.inLoop y=>.inLoop (BQ y)|x=>x
def iT:Item->Bool
 |.code _|.inLoop _|.inBlock _=>true|_=>false
def Ix{m:Ren}:∀{k:List Item},k.all iT=true->dT (kh m) (k.map nM) k
 |[],_=>.nil|x::k,h=>by
  simp only[bt,bp]at h;refine .cons ?_ (Ix h.2);cases x<;>first|exact .Ia _|exact .mH _|exact .inBlock _|(simp[iT]at h)
def GC{m:Ren}:∀{k k':List Item},k.all iT=true->dT (kh m) (k.map nM) k'->k'=k
 |[],_,_,h=>by cases h;rfl
 |x::k,_,W,h=>by
  simp only[bt,bp]at W
  cases h with
  |cons hi Y=>
   rw[GC W.2 Y]
   cases x with
   |code y=>
    simp only[nM]at hi;generalize O:Item.code _=z at hi
    cases hi with
    |Ia y'=>simp only[BQ,Item.code.injEq,Code.cond.injEq]at O;rw[O.2.1]|code c U=>simp only[Item.code.injEq]at O;rw[<-O]at U;exact U.1.elim|_=>cases O
   |inLoop y=>
    simp only[nM]at hi;generalize O:Item.inLoop _=z at hi
    cases hi with
    |mH y'=>simp only[BQ,Item.inLoop.injEq,Code.cond.injEq]at O;rw[O.2.1]|inLoop c U=>simp only[Item.inLoop.injEq]at O;rw[<-O]at U;exact U.1.elim|_=>cases O
   |inBlock i=>
    cases hi;rfl
   |_=>simp[iT]at W
def rN(id:Nat):∀(k:List Item),aJ id (k.map nM)=(aJ id k).map (·.map nM)
 |[]=>rfl|x::k=>by
  cases x with
  |inBlock i=>
   simp only[List.map_cons,nM];unfold aJ;split;rfl;exact rN id k
  |_=>exact rN id k
def exitTo_plain{id:Nat}:∀{k k':List Item},k.all iT=true->aJ id k=some k'->k'.all iT=true
 |[],_,_,e=>by cases e
 |x::k,k',y,e=>by
  simp only[bt,bp]at y
  cases x with
  |inBlock i=>
   unfold aJ at e;split at e
   cases e;exact y.2;exact exitTo_plain y.2 e
  |_=>exact exitTo_plain y.2 e
section
variable {P:Program} {E:Env P} {fn:a9} {tm:Array Value} {os:List OF} {wl:World} {V:List (Nat×Option (List Value))} {k:List Item}
def iZ.TJ{S:LS}(hk:k.all iT=true)(hf:vA E os)(Y:S.cs=[door P])(aa:S.fr=fY fn tm (k.map nM))(h:dh E (⟨fn,tm,k⟩::os) S.w V):iZ E S os V:=by
 intro m Pd ρ gs w sl t fr' cs' Tc ab ac ad y O h0;have hF:=O.qE;rw[Y]at O;have U:=ui hf y
 obtain⟨rfl,W⟩:cs'=Tc/\fr'.kind=.normal:=by
  cases O with
  |one _ _ hb _=>
   refine⟨rfl,?_⟩;rcases hb with⟨x,_⟩|⟨_,ps,e,x⟩
   exact x;exact absurd x (U ps e)
  |cons _ _ _ hx=>cases hx
 rw[aa]at hF;obtain⟨f1,f2,f3,f4,f5,f6⟩:=hF;obtain⟨ae,af,ag,ah,ai,aj,ak⟩:=fr';have:=GC hk f3;subst this f1 W;cases f4;cases f5;cases f6;exact h m Pd ρ gs w sl t _ _ ab ac ad (.cons (o:=⟨_,tm,_⟩) f2 y) h0
def dh.code{c:Code}{Q:Exit->Act->World->Prop}(af:fR E.ok c)(hk:k.all iT=true)(hf:vA E os)(h:∀τ,Bu τ wl->c.wp P Q ⟨tm,[]⟩ (tp wl τ))
  (hn:∀e a w',Q e a w'->a.defers=[]/\∃k',((e=.normal/\k'=k)\/∃id,e=.exit id/\aJ id k=some k')/\dh E (⟨fn,a.tmps,k'⟩::os) w' V):dh E (⟨fn,tm,.code c::k⟩::os) wl V:=by
 have hS:iZ E ⟨fY fn tm (.code c::k.map nM),[door P],wl⟩ os V:=by
  let U:LS->Prop:=λS=>S.cs=[door P]/\∃W k',k'.all iT=true/\S.fr=fY fn W (k'.map nM)/\dh E (⟨fn,W,k'⟩::os) S.w V;refine iZ.ob (Stop:=λS=>∃τ,U (S.on τ)) (λS τ ⟨y,h⟩=>⟨y,h⟩) (λy ab=>?_) λS' ⟨y,hc,W,k',h1,h2,h3⟩=>?_;obtain⟨e,a,w',hq,O⟩:=h y ab (fY fn #[] []) (k.map nM) [door P];obtain⟨hd,k',ag,hW⟩:=hn e a w' hq;obtain⟨Y,al⟩:=a;subst hd
  have aa:Steps P (aN (fY fn tm (.code c::k.map nM)) [door P] (tp wl y)) (aN (fY fn Y (k'.map nM)) [door P] w')/\k'.all iT=true:=by
   rcases ag with⟨rfl,rfl⟩|⟨id,rfl,he⟩
   exact⟨O,hk⟩;exact⟨O _ (by rw[rN,he];rfl),exitTo_plain hk he⟩
  obtain⟨⟨n,aa⟩,ah⟩:=aa;exact⟨n,⟨fY fn Y _,[door P],w'⟩,aa,⟨w'.tape,rfl,Y,k',ah,rfl,hW⟩,by simp⟩;exact iZ.tape (τ:=y) (iZ.TJ h1 hf hc h2 h3)
 intro m Pd ρ gs w sl t fr' cs' ac ai aj ad h0;obtain⟨ak,l',e,ht,ae⟩:=ad.head;cases e;exact hS m Pd ρ gs w sl t _ _ cs' ac ai aj ae (dU.one (fr:=fY fn tm _) (fr':=fY fn ak _) ⟨rfl,ht,.cons (.code c (by rw[ac.Um];exact af)) (Ix hk),.nil,.run,.none⟩ rfl (.inl ⟨rfl,ui hf ae⟩) rfl) h0
end
end
namespace D
open Go.RowKit Go.Sort
def Pm{w y:World}(h:eK w y):∃q os,y=grow (w.drewN q) os:=by
 obtain⟨⟨O,U,W,Y,h5⟩,h6⟩:=h;refine⟨y.drawn-w.drawn,y.heap.extract w.heap.size y.heap.size,?_⟩;obtain⟨yh,yt,yd,yo,yu⟩:=y;obtain⟨wh,wt,wd,wo,wu⟩:=w;simp only at O U W Y h5 h6;subst O U W;unfold grow World.drewN;simp only[World.mk.injEq,and_true,true_and];constructor;apply bf;intro i;by_cases hi:i<wh.size;rw[bc hi];exact h5 i hi;rw[Array.getElem?_append_right (by omega),Array.getElem?_extract];by_cases h:i<yh.size;rw[if_pos (by omega)];congr 1;omega;rw[if_neg (by omega)];exact aY (by omega);omega
def Dj(x y:Int):Int:=if x<y then -1 else if y<x then 1 else 0
def Ke(x y:Int)(w:World):aA prog 127 #[.int .i64 x,.int .i64 y] w λe w'=>e=.returned (.int .i64 (Dj x y))/\w=w':=by
 unfold Dj;by_cases O:x<y
 .go_wp2;go_ret;exact⟨rfl,rfl⟩
 by_cases U:y<x
 .go_wp2;go_ret;exact⟨rfl,rfl⟩
 go_wp2;go_ret;exact⟨rfl,rfl⟩
def Sc(x y z:Int)(g:Nat)(w:World)(h0:w.cell? ⟨g,0,none⟩=some (.int .i64 x))(h1:w.cell? ⟨g,1,none⟩=some (.int .i64 y))(h2:w.cell? ⟨g,2,none⟩=some (.int .i64 z)):aA prog 126 #[.slice (some ⟨g,0,none⟩) 3 3] w λe w'=>e=.returned (.int .i64 (if x≠0 then x else if y≠0 then y else z))/\w=w':=by
 by_cases O:x=0
 .subst O;rw[if_neg (by simp)];by_cases U:y=0
  .subst U;rw[if_neg (by simp)];by_cases W:z=0
   .subst W;go_enter func126,ntmps126;go_wp2;refine aB 4 ?_;rw[a7];go_wp2;rw[a7];go_wp2;rw[a7];go_wp2;rw[a7];go_wp2;go_ret;exact⟨rfl,rfl⟩
   have Y:(z==0)=false:=by simpa using W
   go_enter func126,ntmps126;go_wp2;refine aB 3 ?_;rw[a7];go_wp2;rw[a7];go_wp2;rw[a7];go_wp2;go_ret;exact⟨rfl,rfl⟩
  have aa:(y==0)=false:=by simpa using U
  rw[if_pos U];go_enter func126,ntmps126;go_wp2;refine aB 2 ?_;rw[a7];go_wp2;rw[a7];go_wp2;go_ret;exact⟨rfl,rfl⟩
 rw[if_pos O];have ab:(x==0)=false:=by simpa using O
 go_enter func126,ntmps126;go_wp2;refine aB 1 ?_;rw[a7];go_wp2;go_ret;exact⟨rfl,rfl⟩
def UI{w:World}{x y z:Value}{t:aD}{g:Nat}(O:g=w.heap.size):((w.alloc (.cells #[x,y,z] t)).cell? ⟨g,0,none⟩=some x/\(w.alloc (.cells #[x,y,z] t)).cell? ⟨g,1,none⟩=some y)/\(w.alloc (.cells #[x,y,z] t)).cell? ⟨g,2,none⟩=some z:=by
 subst O;refine⟨⟨?_,?_⟩,?_⟩<;>rw[bi _ _ _ _ rfl]<;>rfl
def Vj(x y:dp):Int:=if Dj y.du x.du≠0 then Dj y.du x.du else if sR (dG x) (dG y)≠0 then sR (dG x) (dG y)else sR x.name y.name
def F5(x y:dp)(w:World)(hx:x.text.length<=1048576)(O:y.text.length<=1048576):aA prog 84 #[.agg #[.string ⟨x.name.toArray⟩,.string ⟨x.text.toArray⟩,.int .i64 x.du,.int .i64 x.dE],.agg #[.string ⟨y.name.toArray⟩,.string ⟨y.text.toArray⟩,.int .i64 y.du,.int .i64 y.dE]] w λe w'=>e=.returned (.int .i64 (Vj x y))/\eK w w':=by
 obtain⟨z1,ab⟩:∃z,z=Dj y.du x.du:=⟨_,rfl⟩;obtain⟨z2,ac⟩:∃z,z=sR (dG x) (dG y):=⟨_,rfl⟩;obtain⟨z3,ad⟩:∃z,z=sR x.name y.name:=⟨_,rfl⟩;obtain⟨zw,U⟩:∃zw,zw=if z1≠0 then z1 else if z2≠0 then z2 else z3:=⟨_,rfl⟩
 have e:Vj x y=zw:=by rw[U,ab,ac,ad];rfl
 rw[e];clear e;obtain⟨kx,ae⟩:∃k,k=dG x:=⟨_,rfl⟩;obtain⟨ky,af⟩:∃k,k=dG y:=⟨_,rfl⟩;have H1:Hid (∀W,aA prog 127 #[.int .i64 y.du,.int .i64 x.du] W λe w'=>e=.returned (.int .i64 z1)/\W=w'):=λW=>by rw[ab];exact Ke _ _ W
 have H2:Hid (∀W,aA prog 128 #[.string ⟨kx.toArray⟩,.string ⟨ky.toArray⟩] W λe w'=>e=.returned (.int .i64 z2)/\W=w'):=λW=>by rw[ac,<-ae,<-af];exact qi _ _ W
 have H3:Hid (∀W,aA prog 128 #[.string ⟨x.name.toArray⟩,.string ⟨y.name.toArray⟩] W λe w'=>e=.returned (.int .i64 z3)/\W=w'):=λW=>by rw[ad];exact qi _ _ W
 have HX:Hid (∀W,aA prog 50 #[.string ⟨x.text.toArray⟩] W λe w'=>e=.returned (.string ⟨kx.toArray⟩)/\eK W w'):=λW=>by
  have h:=tH ⟨x.text.toArray⟩ W (by show x.text.toArray.size<=_;simp;omega);rw[ae];exact h
 have HY:Hid (∀W,aA prog 50 #[.string ⟨y.text.toArray⟩] W λe w'=>e=.returned (.string ⟨ky.toArray⟩)/\eK W w'):=λW=>by
  have h:=tH ⟨y.text.toArray⟩ W (by show y.text.toArray.size<=_;simp;omega);rw[af];exact h
 have HO:Hid (∀(g:Nat)(W:World),W.cell? ⟨g,0,none⟩=some (.int .i64 z1)->W.cell? ⟨g,1,none⟩=some (.int .i64 z2)->W.cell? ⟨g,2,none⟩=some (.int .i64 z3)->aA prog 126 #[.slice (some ⟨g,0,none⟩) 3 3] W λe w'=>e=.returned (.int .i64 zw)/\W=w'):=λg W k0 k1 k2=>by
  rw[U];exact Sc z1 z2 z3 g W k0 k1 k2
 clear U ab ac ad ae af hx O;obtain⟨nx,_,tx,wx,gx⟩:=x;obtain⟨ny,_,ty,wy,gy⟩:=y;simp only at H1 H3 HX HY⊢;obtain⟨w0,Y⟩:∃w0,w0=(w.alloc (.cells #[.string ⟨nx.toArray⟩,.string ⟨tx.toArray⟩,.int .i64 wx,.int .i64 gx] 96)).alloc (.cells #[.string ⟨ny.toArray⟩,.string ⟨ty.toArray⟩,.int .i64 wy,.int .i64 gy] 96):=⟨_,rfl⟩
 have hA:∀j,w0.cell? ⟨w.heap.size,j,none⟩=(#[Value.string ⟨nx.toArray⟩,.string ⟨tx.toArray⟩,.int .i64 wx,.int .i64 gx]:Array Value)[j]?:=λj=>by
  rw[Y,World.cell?_alloc_past _ _ _ (by simp),bi _ _ _ _ rfl]
 have aa:∀j,w0.cell? ⟨w.heap.size+1,j,none⟩=(#[Value.string ⟨ny.toArray⟩,.string ⟨ty.toArray⟩,.int .i64 wy,.int .i64 gy]:Array Value)[j]?:=λj=>by
  rw[Y,bi _ _ _ _ (by simp)]
 have ag:Hid (eK w w0):=by rw[Y];exact(eK.alloc _ _).trans (eK.alloc _ _)
 have a0:w0.cell? ⟨w.heap.size,0,none⟩=some (.string ⟨nx.toArray⟩):=hA 0;have a1:w0.cell? ⟨w.heap.size,1,none⟩=some (.string ⟨tx.toArray⟩):=hA 1;have a2:w0.cell? ⟨w.heap.size,2,none⟩=some (.int .i64 wx):=hA 2;have b0:w0.cell? ⟨w.heap.size+1,0,none⟩=some (.string ⟨ny.toArray⟩):=aa 0;have b1:w0.cell? ⟨w.heap.size+1,1,none⟩=some (.string ⟨ty.toArray⟩):=aa 1;have b2:w0.cell? ⟨w.heap.size+1,2,none⟩=some (.int .i64 wy):=aa 2;clear hA aa;go_enter func84,ntmps84;go_wp2_with fail;rw[<-Y];clear Y;refine jN (by kernel_rfl) ?_;refine dy 0 ?_ ?_<|dy 1 ?_ ?_<|dy 2 ?_ ?_<|dy 3 ?_ ?_ ?_
 any_goals(intro y O;have q:=a4 O.1 b2;have q1:=a4 O.1 a2;unfold fT;go_simp;refine⟨eK.refl _,?_⟩;with_reducible rfl)
 go_simp;refine dy 4 ?_ ?_ ?_;rotate_left
 .intro y O;unfold fT;go_simp;refine⟨rfl,(H1.out y).mono ?_⟩;rintro e y2 ⟨rfl,rfl⟩;refine⟨_,rfl,eK.refl _,?_⟩;with_reducible rfl
 refine dy 5 ?_ ?_<|dy 6 ?_ ?_ ?_
 any_goals(intro y O;have q:=a4 O.1 a1;unfold fT;go_simp;refine⟨eK.refl _,?_⟩;with_reducible rfl)
 go_simp;refine dy 7 ?_ ?_ ?_;rotate_left
 .intro y O;unfold fT;go_simp;refine⟨rfl,(HX.out y).mono ?_⟩;rintro e y2 ⟨rfl,h2⟩;refine⟨_,rfl,h2,?_⟩;with_reducible rfl
 refine dy 8 ?_ ?_<|dy 9 ?_ ?_ ?_
 any_goals(intro y O;have q:=a4 O.1 b1;unfold fT;go_simp;refine⟨eK.refl _,?_⟩;with_reducible rfl)
 go_simp;refine dy 10 ?_ ?_ ?_;rotate_left
 .intro y O;unfold fT;go_simp;refine⟨rfl,(HY.out y).mono ?_⟩;rintro e y2 ⟨rfl,h2⟩;refine⟨_,rfl,h2,?_⟩;with_reducible rfl
 go_simp;refine dy 11 ?_ ?_ ?_;rotate_left
 .intro y O;unfold fT;go_simp;refine⟨rfl,(H2.out y).mono ?_⟩;rintro e y2 ⟨rfl,rfl⟩;refine⟨_,rfl,eK.refl _,?_⟩;with_reducible rfl
 refine dy 12 ?_ ?_<|dy 13 ?_ ?_<|dy 14 ?_ ?_<|dy 15 ?_ ?_ ?_
 any_goals(intro y O;have q:=a4 O.1 a0;have q1:=a4 O.1 b0;unfold fT;go_simp;refine⟨eK.refl _,?_⟩;with_reducible rfl)
 go_simp;refine dy 16 ?_ ?_ ?_;rotate_left
 .intro y O;unfold fT;go_simp;refine⟨rfl,(H3.out y).mono ?_⟩;rintro e y2 ⟨rfl,rfl⟩;refine⟨_,rfl,eK.refl _,?_⟩;with_reducible rfl
 go_simp;refine Du (rs:=[17]) (by kernel_rfl) (by simp) ?_;intro i hi;simp only[List.mem_singleton]at hi;subst hi;refine yi (λg=>.slice (some ⟨g,0,none⟩) 3 3) (λg y=>(y.cell? ⟨g,0,none⟩=some (.int .i64 z1)/\y.cell? ⟨g,1,none⟩=some (.int .i64 z2))/\y.cell? ⟨g,2,none⟩=some (.int .i64 z3)) rfl (eY _) (λg=>((dR _ _).and (dR _ _)).and (dR _ _)) (by rfl) ?_ ?_
 .intro y O;unfold fT;go_simp;exact⟨eK.alloc _ _,rfl,UI rfl⟩
 intro g;go_simp;refine dy 18 ?_ ?_ ?_ (hC:=((eY _).and (((dR _ _).and (dR _ _)).and (dR _ _))));rotate_left
 .intro y O;obtain⟨_,⟨k0,k1⟩,k2⟩:=O;unfold fT;go_simp;refine⟨rfl,(HO.out _ y k0 k1 k2).mono ?_⟩;rintro e y2 ⟨rfl,rfl⟩;refine⟨_,rfl,eK.refl _,?_⟩;with_reducible rfl
 go_simp;refine dy 19 ?_ ?_ ?_ (hC:=((eY _).and (((dR _ _).and (dR _ _)).and (dR _ _))));rotate_left
 .intro y O;unfold fT;go_simp;refine⟨eK.refl _,?_⟩;with_reducible rfl
 refine sP (by kernel_rfl) ?_ _;rintro y ⟨O,_⟩;have ah:Hid (eK w y):=eK.trans ag.out O;clear O;go_simp;go_wp2;go_ret;exact⟨rfl,ah.out⟩
end D
section
open Go.RowKit
def wrap_u8(n:Int):IntKind.u8.wrap n=n % 256:=by simp[IntKind.wrap,IntKind.signed,IntKind.bits]
def BO{W:World}{g:Nat}{n:Int}(h:W.cell? ⟨g,0,none⟩=some (.int .u8 (IntKind.u8.wrap n))):(convert 60 9 (.slice (some ⟨g,0,none⟩) 1 1)).run prog W=.ok (.string ⟨#[u8 n]⟩) W:=by
 rw[wrap_u8]at h;rw[run_convert_bytes_string W _ _ _ _ _ _ underlying60 underlying5 underlying9]
 have U:=run_loadCells_list (P:=prog) W ⟨g,0,none⟩ (fo [u8 n]) (λj u y=>by
  rw[iX]at y;match j,y with
  |0,y=>simp at y;rw[<-y];exact h|j+1,y=>simp at y)
 have O:(loadCells ⟨g,0,none⟩ 1).run prog W=.ok ((([u8 n].map λc=>(c.toNat:Int)).map (Value.int .u8)).toArray) W:=by
  have e:fo [u8 n]=([u8 n].map λc=>(c.toNat:Int)).map (Value.int .u8):=by simp[fo]
  rw[<-e];exact U
 rw[run_bytesToString W _ _ _ _ O,Aw];simp
end
end Go.Proofs.YtocbogeoffeolaaGreatDoor
