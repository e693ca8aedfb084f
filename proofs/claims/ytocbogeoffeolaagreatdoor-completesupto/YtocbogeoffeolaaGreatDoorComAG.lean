import Derived.Test.YtocbogeoffeolaaGreatDoorComAC
import Derived.Test.YtocbogeoffeolaaGreatDoorComAF
set_option linter.all false
set_option maxHeartbeats 8000000
set_option maxRecDepth 1000000
open Go.Region renaming wanted->a4,ready->a5,binds->a6,noSelect->a7,noSelect_spec->a8,free->a9,free_spec->aA,schedule->aB
open Array renaming replicate->aC,getElem?_eq_none->aD,getElem?_eq_some_iff->aE,getD_eq_getD_getElem?->aF,setIfInBounds_comm->aG,mem_toList_iff->aH,toList_append->aI,empty_append->aJ,toList_inj->aK
open List renaming filter_append->aL,take_succ_eq_append_getElem->aM,foldl_append->aN,not_mem_nil->aO,mem_cons->aP,mem_filter->aQ,all_cons->aR,flatMap_append->aS,length_append->aT,append_assoc->aU,prefix_refl->aV,all_eq_true->aW,foldl_cons->aX,map_cons->aY,mem_map->aZ,range->ba
open Go renaming yielded->bc,execOp->bd,ready_mono->be,FuncId->bf,stepG->bg,getD_set_ne->bh,wanted_put->bi,execOp_put->bj,step_lone_go->bk,exitTo->bl,seen->bm,TypeId->bn,Calls->bo,lone->bp,callDeferred->bq
open Go.stepG renaming apply->br,exec->bs,oper->bt
open Bool renaming false_eq_true->bu,and_eq_true->bv,true_or->bw
open Go.Region.linearise renaming go->bx
open Nat renaming le_refl->bz,lt_or_ge->b0,mul_le_mul_right->b1,zero_le->b2
open Go.Frame renaming enter->b3,finish_at->b4,finish->b5,oper?->b6,eval->b7
open Go.RowKit.Below renaming refl->b8,trans->b9,block->b',size->bA
open Go.GStep renaming after->bB
open Option renaming getD_some->bC,bind_some->bD,map_some->bE
open Go.Instr renaming loadAt->bF
open Go renaming undef->bG
open Bool renaming false->f?,true->t?
open Go renaming Program->P?,Value->v?,World->w?
open Go.Ending renaming returned->e?
open Go.IntKind renaming i64->i?
open Go.Item renaming inRegion->r?
open Go.Obj renaming cells->c?
open Go.Value renaming int->n?,pointer->p?,string->s?
open List renaming length->l?,toArray->a?
open Option renaming none->x?,some->y?
namespace Go.Proofs.YtocbogeoffeolaaGreatDoor
open Go.Proofs.Tryz
section
open Go.RowKit
variable {K:(w?->Prop)->Act->Prop} {a:Act} {listed:Array Bool} {fuel i id:Nat} {o oi:Oper} {v:v?} {b c w:w?} {C:w?->Prop}
def eJ(y O:w?):Prop:=B? y O
def eJ.refl(y):eJ y y:=b8 ..
def eJ.trans{a}(h:eJ a b)(O:eJ b c):eJ a c:=b9 h (Below.mono O (bA h))
def eJ.alloc(y)(o):eJ y (y.alloc o):=(b8 ..).alloc (bz _) o
def D.eJ(y O:w?):Prop:=B? y O/\y.drawn<=O.drawn
def D.eJ.refl(y):D.eJ y y:=⟨b8 ..,bz _⟩
def D.eJ.trans{a}(h:D.eJ a b)(O:D.eJ b c):D.eJ a c:=⟨b9 h.1 (Below.mono O.1 (bA h.1)),Nat.le_trans h.2 O.2⟩
def D.eJ.alloc(y)(o):D.eJ y (y.alloc o):=⟨(b8 ..).alloc (bz _) o,bz _⟩
def fW(R:w?->w?->Prop)(C:w?->Prop):Prop:=∀y O,C y->R y O->C O
def fC(w):fW eJ (eJ w):=λ_ _ h O=>h.trans O
def D.fC(w):fW D.eJ (D.eJ w):=λ_ _ h O=>h.trans O
def fW.and{R D}(h:fW R C)(Y:fW R D):fW R (λy=>C y/\D y):=λy O U W=>⟨h y O U.1 W,Y y O U.2 W⟩
section
variable {R:w?->w?->Prop} {P:P?} {ops:Array Oper} {md:Region.Mode} {Q:Exit->Act->w?->Prop}
def iJ(P:P?)(w:w?)(B:v?->w?->Prop):Result Go.Next->Prop
 |.ok (.value u) w'=>B u w'|.ok .skip w'=>B bG w'|.ok (.enter f args) w'=>w'=w/\bo P f args w (λe O=>∃v,e=e? v/\B v O)|_=>False
def fL(P:P?)(o:Oper)(a:Act)(w:w?)(B:v?->w?->Prop):Prop:=iJ P w B ((bd a.eval o).run P w)
def iJ.mono{B O:v?->w?->Prop}(h:∀v w,B v w->O v w):∀{r},iJ P w B r->iJ P w O r:=by
 intro r hh
 cases r with
 |ok n w'=>
  cases n<;>simp only[iJ]at hh⊢
  case value u=>exact h _ _ hh
  case skip=>exact h _ _ hh
  case enter f args=>exact⟨hh.1,hh.2.mono λe w'' ⟨v,he,hb⟩=>⟨v,he,h _ _ hb⟩⟩
 |halt x w'=>simp only[iJ]at hh
def Ht(R:w?->w?->Prop)(P:P?)(ops:Array Oper)(i:Nat)(C:w?->Prop)(K:(w?->Prop)->Act->Prop)(a:Act):Prop:=
 match ops[i]? with
 |none=>K C a|some o=>if a4 o (bc ops a.tmps)=t? then
   ∃(X:Type)(O:X->w?->Prop)(U:X->v?),(∀x,fW R (O x))/\(∀x y,O x y->C y)/\(∀y,C y->fL P o a y (λv W=>R y W/\∃x,v=U x/\O x W))/\∀x,K (O x) (a.put o.dst (U x))
  else K C (a.put o.dst bG)
def O9{K':(w?->Prop)->Act->Prop}(h:∀C a,K C a->K' C a)(O:Ht R P ops i C K a):Ht R P ops i C K' a:=by
 unfold Ht at *;split;rename_i U;simp only[U]at O;exact h _ _ O;rename_i o U;simp only[U]at O;split
 rename_i W;simp only[W,if_true]at O;obtain⟨X,Y,vx,h1,h2,h3,h4⟩:=O;exact⟨X,Y,vx,h1,h2,h3,λx=>h _ _ (h4 x)⟩;rename_i W;simp only[W]at O;exact h _ _ O
def WX(R:w?->w?->Prop)(P:P?)(md:Region.Mode)(ops:Array Oper)(Q:Exit->Act->w?->Prop):Nat->Array Bool->(w?->Prop)->Act->Prop
 |0,listed,C,a=>a5 md ops listed=[]/\∀y,C y->Q .normal a y|fuel+1,listed,C,a=>
  (a5 md ops listed=[]->∀y,C y->Q .normal a y)/\
  ∀i∈a5 md ops listed,Ht R P ops i C (λO U=>WX R P md ops Q fuel (listed.setIfInBounds i t?) O U) a
def E6{K'}(hC:C w)(h:∀C a w,C w->K C a->K' a w)(hh:Ht R P ops i C K a):wpOp P ops Q i K' a w:=by
 unfold Ht at hh;unfold wpOp;split;rename_i U;simp only[U]at hh;exact h _ _ _ hC hh;rename_i o U;simp only[U]at hh;split
 .rename_i W;simp only[W,if_true]at hh;obtain⟨X,Cx,vx,_,_,h3,Y⟩:=hh;have h5:=h3 w hC;refine .inl ?_;unfold fL at h5;unfold Oper.wp;generalize (bd _ o).run P w=r at *
  cases r with
  |ok n w'=>
   cases n<;>simp only[iJ]at h5<;>simp only[Oper.upon]
   case value u=>obtain⟨_,x,rfl,O⟩:=h5;exact h _ _ _ O (Y x)
   case skip=>obtain⟨_,x,e,O⟩:=h5;rw[e];exact h _ _ _ O (Y x)
   case enter f args=>obtain⟨e1,hc⟩:=h5;rw[e1];refine hc.mono λe aa he=>?_;obtain⟨v,rfl,_,x,rfl,O⟩:=he;exact h _ _ _ O (Y x)
  |halt x w'=>simp only[iJ]at h5
 rename_i W;simp only[W]at hh;exact h _ _ _ hC hh
def xT:∀(fuel)(listed)(C)(a)(w),C w->WX R P md ops Q fuel listed C a->wpAny P md ops Q fuel listed a w
 |0,_,_,_,w,O,h=>⟨h.1,h.2 w O⟩
 |fuel+1,_,_,_,w,O,h=>⟨λW=>h.1 W w O,λi Y=>E6 O (λC' a' w' U h'=>xT fuel _ C' a' w' U h') (h.2 i Y)⟩
def ia(R:w?->w?->Prop)(P:P?)(ops:Array Oper)(C:w?->Prop)(o:Oper)(v:v?)(a:Act):Prop:=
 (a4 o (bc ops a.tmps)=t?/\∀y,C y->fL P o a y (λu O=>R y O/\u=v))\/
 (a4 o (bc ops a.tmps)=f?/\v=bG)
def ia.sub{O:w?->Prop}(h:ia R P ops C o v a)(U:∀y,O y->C y):ia R P ops O o v a:=by
 obtain⟨W,Y⟩|h:=h
 exact .inl ⟨W,λy hy=>Y y (U y hy)⟩;exact .inr h
def ia.of_same{a'}(O:ia R P ops C o v a)(U:bd a'.eval o=bd a.eval o)
  (W:a4 o (bc ops a'.tmps)=a4 o (bc ops a.tmps)):ia R P ops C o v a':=by
 unfold ia fL at *;rw[U,W];exact O
def ia.W8(Y:ops[i]?=y? o)(hC:fW R C)(O:ia R P ops C o v a)(h:K C (a.put o.dst v)):Ht R P ops i C K a:=by
 unfold Ht;simp only[Y];obtain⟨U,hv⟩|⟨U,rfl⟩:=O
 simp only[U,if_true];exact⟨Unit,λ_=>C,λ_=>v,λ_=>hC,λ_ _ h=>h,λy O=>(hv y O).mono λu y' ⟨W,h2⟩=>⟨W,(),h2,hC y y' O W⟩,λ_=>h⟩;simp only[U,bu,if_false];exact h
def Sh{j O}(hj:ops[j]?=y? O)(W:oi.apart ops O=t?)
  (Y:∀cs b,oi.op≠.select cs b) (aa:∀cs b,O.op≠.select cs b) {K} {a} (hC:fW R C)
  (U:ia R P ops C oi v a) (h:Ht R P ops j C K (a.put oi.dst v)) :
  Ht R P ops j C (λC' a'=>fW R C'/\ia R P ops C' oi v a'/\K C' (a'.put oi.dst v)) a:=by
 obtain⟨h1,h2,h3⟩:=Oper.apart_spec W
 have nF:∀(C:w?->Prop)(a:Act),ia R P ops C oi v a->∀u,ia R P ops C oi v _:=λC a U u=>U.of_same (bj oi Y a _ u h3) (bi oi a _ u h3)
 unfold Ht at *;simp only[hj]at *;rw[bi O a _ v h1]at h;split
 rename_i hw;simp only[hw,if_true]at h;obtain⟨X,Cx,vx,q1,q2,q3,q4⟩:=h;refine⟨X,Cx,vx,q1,q2,λy ab=>?_,λx=>⟨q1 x,nF _ _ (U.sub (q2 x)) _,by rw[<-Act.put_comm a v _ h2];exact q4 x⟩⟩;have:=q3 y ab;unfold fL at *;rwa [bj O aa a _ v h1]at this;rename_i hw;simp only[hw]at h;exact⟨hC,nF _ a U _,by rw[<-Act.put_comm a v bG h2];exact h⟩
def FI(hi:ops[i]?=y? oi)(Y:∀(j:Nat)(o)cs b,ops[j]?=y? o->o.op≠.select cs b) :
  ∀(fuel)(listed)(C)(a),
   (∀j oj,ops[j]?=y? oj->j≠i->listed.getD j t?=f?->(∀e∈oj.after,a6 md e=t?->e.on≠i)->oi.apart ops oj=t?)->
   i∈a5 md ops listed->fW R C->ia R P ops C oi v a->
   WX R P md ops Q fuel (listed.setIfInBounds i t?) C (a.put oi.dst v)->WX R P md ops Q (fuel+1) listed C a:=by
 intro fuel;induction fuel with
 |zero=>intro listed C a _ hr hC hy H;refine⟨λh=>(by rw[h]at hr;cases hr),λj hj=>?_⟩;by_cases O:j=i;subst O;exact hy.W8 hi hC H;have:=be hj O;rw[H.1]at this;cases this
 |succ fuel ih=>
  intro listed C a U hr hC hy H;refine⟨λh=>(by rw[h]at hr;cases hr),λj hj=>?_⟩;by_cases O:j=i;subst O;exact hy.W8 hi hC H;have h1:=H.2 j (be hj O);obtain⟨aa,oj,ab,fl⟩:=_root_.Go.mem_ready.1 hj
  have ac:∀e∈oj.after,a6 md e=t?->e.on≠i:=λe he hb af=>by
   have h1:=fl e he hb;have h0:=(_root_.Go.mem_ready.1 hr).1;rw[af]at h1;obtain h'|h':=b0 i listed.size
   simp[h']at h0 h1;rw[h0]at h1;cases h1;simp[aD h']at h1
  have h2:=Sh ab (U j oj ab O aa ac) (λcs b=>Y i oi cs b hi) (λcs b=>Y j oj cs b ab) hC hy h1
  have W:∀k ok,ops[k]?=y? ok->k≠i->(listed.setIfInBounds j t?).getD k t?=f?->
    (∀e∈ok.after,a6 md e=t?->e.on≠i)->oi.apart ops ok=t?:=λk ok hk ag ad ah=>by
   refine U k ok hk ag ?_ ah;by_cases ae:j=k;subst ae;exact aa;rw[bh t? ae]at ad;exact ad
  refine O9 (λC' a' h3=>ih _ C' a' W (be hr (Ne.symm O)) h3.1 h3.2.1 ?_) h2;rw[aG _ _ O];exact h3.2.2
def dx(i)(v)(U:∀y,C y->fL P oi a y (λu W=>R y W/\u=v))
  (h:WX R P md ops Q fuel (listed.setIfInBounds i t?) C (a.put oi.dst v)) (O:ops[i]?=y? oi:=by rfl)
  (Y:a7 ops=t?:=by kernel_rfl) (hf:a9 md ops listed i=t?:=by kernel_rfl) (hr:(a5 md ops listed).contains i=t?:=by kernel_rfl) (hC:fW R C:=by first|exact fC _|exact D.fC _)
  (hw:a4 oi (bc ops a.tmps)=t?:=by rfl):WX R P md ops Q (fuel+1) listed C a:=
 FI O (a8 Y) fuel listed C a (aA O hf) (u! hr) hC (.inl ⟨hw,U⟩) h
def Db{rs}(U:a5 md ops listed=rs)(O:rs≠[])
  (h:∀i∈rs,Ht R P ops i C (λW Y=>WX R P md ops Q fuel (listed.setIfInBounds i t?) W Y) a):WX R P md ops Q (fuel+1) listed C a:=
 ⟨λh0=>absurd (U▸h0) O,U▸h⟩
def pS(O:a5 md ops listed=[])(h:∀y,C y->Q .normal a y):∀fuel,WX R P md ops Q fuel listed C a
 |0=>⟨O,h⟩
 |_+1=>⟨λ_=>h,by rw[O];simp⟩
def Dx(W:Nat->v?)(D:Nat->w?->Prop)(hi:ops[i]?=y? oi)(hC:fW R C)(hD:∀g,fW R (D g))
  (hw:a4 oi (bc ops a.tmps)=t?) (hy:∀y,C y->fL P oi a y (λv U=>R y U/\v=W y.1.size/\D y.1.size U))
  (h:∀g,K (λy=>C y/\D g y) (a.put oi.dst (W g))):Ht R P ops i C K a:=by
 unfold Ht;simp only[hi,hw,if_true];exact⟨Nat,λg y=>C y/\D g y,W,λg=>hC.and (hD g),λ_ _ h=>h.1,λy O=>(hy y O).mono λv U ⟨Y,h2,h3⟩=>⟨Y,y.1.size,h2,hC y U O Y,h3⟩,h⟩
def xz(O:R w {w with drawn:=w.drawn+1})(hm:P.follows .mixedOrders=t?)
  (h:WX R P .any ops Q ops.size (aC ops.size f?) (R w) a):(Code.region id ops t?).wp P Q a w:=
 wp_region_any hm (xT _ _ _ _ _ O h)
def jm(hm:P.follows .mixedOrders=t?)(h:WX eJ P .any ops Q ops.size (aC ops.size f?) (eJ w) a):(Code.region id ops t?).wp P Q a w:=
 xz ⟨q?,q?,q?,bz _,λ_ _=>rfl⟩ hm h
def D.jm(hm:P.follows .mixedOrders=t?)(h:WX D.eJ P .any ops Q ops.size (aC ops.size f?) (D.eJ w) a):(Code.region id ops t?).wp P Q a w:=
 xz ⟨⟨q?,q?,q?,bz _,λ_ _=>rfl⟩,Nat.le_succ _⟩ hm h
def EY(U:∀y O,R y O->B? y O)(a)(v):fW R (λy=>y.cell? a=y? v):=λy O h W=>by have hb:=b' (U _ _ W) _ (World.block_lt_of_cell? y a h);show O.cell? a=y? v;rw[World.cell?_of_block hb];exact h
def eu(a)(v):fW eJ (λy=>y.cell? a=y? v):=EY (λ_ _ h=>h) a v
def D.eu(a)(v):fW D.eJ (λy=>y.cell? a=y? v):=EY (λ_ _ h=>h.1) a v
end
end
section
open Go.RowKit
variable {K:(w?->Prop)->Act->Prop} {a:Act} {listed:Array Bool} {i:Nat} {oi:Oper} {v:v?} {C:w?->Prop}
def im(C:w?->Prop):Prop:=∀y τ,C y->C (tp y τ)
def kO(w:w?):w?->Prop:=λy=>∃τ,eJ (tp w τ) y
def kO.wN(w):fW eJ (kO w):=λ_ _ ⟨τ,h⟩ O=>⟨τ,h.trans O⟩
def TK{w y}(h:eJ w y)(τ):eJ (tp w τ) (tp y τ):=by obtain⟨O,h2,U,W,Y⟩:=h;exact⟨O,q?,U,W,Y⟩
def kO.free(w):im (kO w):=λy τ ⟨_,h⟩=>⟨τ,TK h τ⟩
def kO.at(w)(d):kO w (w.at d):=⟨w.tape,⟨q?,q?,q?,bz _,λ_ _=>rfl⟩⟩
def im.and{D}(h:im C)(U:im D):im λy=>C y/\D y:=λy τ O=>⟨h y τ O.1,U y τ O.2⟩
section
variable {P:P?} {ops:Array Oper} {md:Region.Mode} {last:Nat} {tl:List Nat->Prop} {Sd:Act->w?->Prop}
def um(P:P?)(ops:Array Oper)(i:Nat)(C:w?->Prop)(K:(w?->Prop)->Act->Prop)(a:Act):Prop:=
 match ops[i]? with
 |none=>False|some o=>if a4 o (bc ops a.tmps)=t? then
   ∃(X:Type)(O:X->w?->Prop)(U:X->v?),(∀x,fW eJ (O x))/\(∀x,im (O x))/\(∀x y,O x y->C y)/\(∀y,C y->fL P o a y (λv W=>eJ y W/\∃x,v=U x/\O x W))/\∀x,K (O x) (a.put o.dst (U x))
  else K C (a.put o.dst bG)
def Ly{K':(w?->Prop)->Act->Prop}(h:∀C a,K C a->K' C a)(O:um P ops i C K a):um P ops i C K' a:=by
 unfold um at *;split;rename_i U;simp only[U]at O;rename_i o U;simp only[U]at O;split
 rename_i W;simp only[W,if_true]at O;obtain⟨X,Y,vx,h1,h2,h3,h4,h5⟩:=O;exact⟨X,Y,vx,h1,h2,h3,h4,λx=>h _ _ (h5 x)⟩;rename_i W;simp only[W]at O;exact h _ _ O
def WS(P:P?)(md:Region.Mode)(ops:Array Oper)(last:Nat)(tl:List Nat->Prop)(Sd:Act->w?->Prop):Nat->Array Bool->(w?->Prop)->Act->Prop
 |0,_,_,_=>False|fuel+1,listed,C,a=>a5 md ops listed≠[]/\∀i∈a5 md ops listed,if i=last then(∀t,tl (bx md ops fuel t (listed.setIfInBounds last t?) []))/\∀y,C y->Sd a y else um P ops i C (λO U=>WS P md ops last tl Sd fuel (listed.setIfInBounds i t?) O U) a
structure JD(P:P?)(ops:Array Oper)(last:Nat)(W:List Nat->Act->w?->Prop):Prop where
 op:∀(i:Nat)rest a w o,i≠last->ops[i]?=some o->a4 o (bc ops a.tmps)=true->(∀τ,fL P o a (tp w τ) λv y=>eJ (tp w τ) y/\W rest (a.put o.dst v) y)->W (i::rest) a w
 pass:∀(i:Nat)rest a w o,i≠last->ops[i]?=some o->a4 o (bc ops a.tmps)=false->W rest (a.put o.dst bG) w->W (i::rest) a w
def WS.sound{W}(U:JD P ops last W)(O:∀a y l,tl l->Sd a y->W (last::l) a y):∀(fuel t)(listed)(C)(a)(w),im C->C w->WS P md ops last tl Sd fuel listed C a->W (bx md ops fuel t listed []) a w
 |0,_,_,_,_,_,_,_,h=>h.elim
 |fuel+1,t,listed,C,a,w,hT,hC,h=>by
  obtain⟨h0,h1⟩:=h
  change W (match (a5 md ops listed)[t % (a5 md ops listed).length]? with
   |some i=>bx md ops fuel ..|none=>[].reverse) a w
  cases hi:(a5 md ops listed)[t % (a5 md ops listed).length]? with
  |none=>
   exfalso
   cases hr:a5 md ops listed with
   |nil=>exact h0 hr|cons x xs=>rw[hr]at hi;have aa:t % (x::xs).length<(x::xs).length:=Nat.mod_lt _ i!;simp at hi;simp at aa;omega
  |some i=>
   simp only[];rw[linearise_go_acc];have h2:=h1 i (List.mem_of_getElem? hi);by_cases e:i=last;subst e;simp only[if_true]at h2;exact O a w _ (h2.1 _) (h2.2 w hC);simp only[e,if_false]at h2;unfold um at h2
   cases Y:ops[i]? with
   |none=>simp only[Y]at h2|some o=>simp only[Y]at h2;by_cases hw:a4 o (bc ops a.tmps)=t?;simp only[hw,if_true]at h2;obtain⟨X,Cx,vx,q1,q2,q3,q4,q5⟩:=h2;refine U.op i _ a w o e Y hw λτ=>(q4 _ (hT w τ hC)).mono λv y ⟨he,x,ev,hx⟩=>⟨he,?_⟩;rw[ev];exact WS.sound U O fuel _ _ _ _ y (q2 x) hx (q5 x);simp only[hw,bu,if_false]at h2;exact U.pass i _ a w o e Y (u! hw) (WS.sound U O fuel _ _ C _ w hT hC h2)
inductive Tw(md:Region.Mode)(ops:Array Oper)(last:Nat):Nat->Prop
 |base {e o}:ops[last]?=some o->e∈o.after->a6 md e=true->Tw md ops last e.on|step {j:Nat} {e o}:Tw md ops last j->ops[j]?=some o->e∈o.after->a6 md e=true->Tw md ops last e.on
def Down(md:Region.Mode)(ops:Array Oper)(listed:Array Bool):Prop:=∀(j:Nat)o,ops[j]?=y? o->listed.getD j f?=t?->∀e∈o.after,a6 md e=t?->listed.getD e.on f?=t?
def Down.WM(h:Down md ops listed)(Y:last∈a5 md ops listed)(hi:Tw md ops last i):listed.getD i f?=t?:=by
 induction hi with
 |base U W hb=>obtain⟨_,o',O,fl⟩:=_root_.Go.mem_ready.1 Y;rw[U]at O;cases O;exact fl _ W hb
 |step _ U W hb ih=>exact h _ _ U ih _ W hb
def Down.set(h:Down md ops listed)(hr:i∈a5 md ops listed):Down md ops (listed.setIfInBounds i t?):=by
 have up:∀k,listed.getD k f?=t?->(listed.setIfInBounds i t?).getD k f?=t?:=by
  intro k W;by_cases e:i=k;subst e
  have:i<listed.size:=by apply Classical.byContradiction;intro hn;simp[aD (Nat.le_of_not_lt hn)]at W
  simp[this];rw[bh f? e];exact W
 intro j o Y hj e he hb;by_cases O:i=j;subst O;obtain⟨_,o',U,fl⟩:=_root_.Go.mem_ready.1 hr;rw[Y]at U;cases U;exact up _ (fl e he hb);rw[bh f? O]at hj;exact up _ (h j o Y hj e he hb)
def OT{j O}(hj:ops[j]?=y? O)(Y:oi.apart ops O=t?)
  (aa:∀cs b,oi.op≠.select cs b) (ab:∀cs b,O.op≠.select cs b) {K} {a} (hC:fW eJ C) (hT:im C)
  (U:ia eJ P ops C oi v a) (h:um P ops j C K (a.put oi.dst v)) :
  um P ops j C (λW a'=>(fW eJ W/\im W)/\ia eJ P ops W oi v a'/\K W (a'.put oi.dst v)) a:=by
 obtain⟨h1,h2,h3⟩:=Oper.apart_spec Y
 have nF:∀(C:w?->Prop)(a:Act),ia eJ P ops C oi v a->∀u,ia eJ P ops C oi v _:=λC a U u=>U.of_same (bj oi aa a _ u h3) (bi oi a _ u h3)
 unfold um at *;simp only[hj]at *;rw[bi O a _ v h1]at h;split
 rename_i hw;simp only[hw,if_true]at h;obtain⟨X,Cx,vx,q1,qt,q2,q3,q4⟩:=h;refine⟨X,Cx,vx,q1,qt,q2,λy ac=>?_,λx=>⟨⟨q1 x,qt x⟩,nF _ _ (U.sub (q2 x)) _,by rw[<-Act.put_comm a v _ h2];exact q4 x⟩⟩;have:=q3 y ac;unfold fL at *;rwa [bj O ab a _ v h1]at this;rename_i hw;simp only[hw]at h;exact⟨⟨hC,hT⟩,nF _ a U _,by rw[<-Act.put_comm a v bG h2];exact h⟩
def ia.Wi{o}(Y:ops[i]?=y? o)(hC:fW eJ C)(hT:im C)(O:ia eJ P ops C o v a)(h:K C (a.put o.dst v)):um P ops i C K a:=by
 unfold um;simp only[Y];obtain⟨U,hv⟩|⟨U,rfl⟩:=O
 simp only[U,if_true];exact⟨Unit,λ_=>C,λ_=>v,λ_=>hC,λ_=>hT,λ_ _ h=>h,λy O=>(hv y O).mono λu y' ⟨W,h2⟩=>⟨W,(),h2,hC y y' O W⟩,λ_=>h⟩;simp only[U,bu,if_false];exact h
def Hn(hi:ops[i]?=y? oi)(ae:Tw md ops last i)(al:i≠last)(ab:∀(j:Nat)(o)cs b,ops[j]?=y? o->o.op≠.select cs b) :
  ∀(fuel)(listed)(C)(a),Down md ops listed->
   (∀j oj,ops[j]?=y? oj->j≠i->listed.getD j t?=f?->(∀e∈oj.after,a6 md e=t?->e.on≠i)->oi.apart ops oj=t?\/j=last)->
   i∈a5 md ops listed->fW eJ C->im C->ia eJ P ops C oi v a->
   WS P md ops last tl Sd fuel (listed.setIfInBounds i t?) C (a.put oi.dst v)->WS P md ops last tl Sd (fuel+1) listed C a:=by
 intro fuel;induction fuel with
 |zero=>intro listed C a _ _ _ _ _ _ H;exact H.elim|succ fuel ih=>
  intro listed C a hD U hr hC hT hy H;refine⟨λh=>(by rw[h]at hr;cases hr),λj hj=>?_⟩;have O:=(_root_.Go.mem_ready.1 hr).1;by_cases Y:j=last;subst Y;have:=hD.WM hj ae;obtain h'|h':=b0 i listed.size
  simp[h']at this O;rw[O]at this;cases this;simp[aD h']at this;simp only[Y,if_false];by_cases W:j=i;subst W;exact hy.Wi hi hC hT H;have h1:=H.2 j (be hj W);simp only[Y,if_false]at h1;obtain⟨ac,oj,ad,fl⟩:=_root_.Go.mem_ready.1 hj
  have af:∀e∈oj.after,a6 md e=t?->e.on≠i:=λe he hb ai=>by
   have h1:=fl e he hb;rw[ai]at h1;obtain h'|h':=b0 i listed.size
   simp[h']at O h1;rw[O]at h1;cases h1;simp[aD h']at h1
  have h2:=OT ad ((U j oj ad W ac af).resolve_right Y) (λcs b=>ab i oi cs b hi) (λcs b=>ab j oj cs b ad) hC hT hy h1
  have aa:∀k ok,ops[k]?=y? ok->k≠i->(listed.setIfInBounds j t?).getD k t?=f?->
    (∀e∈ok.after,a6 md e=t?->e.on≠i)->oi.apart ops ok=t?\/k=last:=λk ok hk aj ag ak=>by
   refine U k ok hk aj ?_ ak;by_cases ah:j=k;subst ah;exact ac;rw[bh t? ah]at ag;exact ag
  refine Ly (λC' a' h3=>ih _ C' a' (hD.set hj) aa (be hr (Ne.symm W)) h3.1.1 h3.1.2 h3.2.1 ?_) h2;rw[aG _ _ W];exact h3.2.2
end
open Go.Conc
variable {fuel:Nat} {o:Oper}
section
variable {P:P?} {ops:Array Oper} {md:Region.Mode} {last:Nat} {tl:List Nat->Prop} {Sd:Act->w?->Prop}
def uN(md:Region.Mode)(ops:Array Oper)(j:Nat):List Nat:=match ops[j]? with
 |some o=>(o.after.toList.filter λe=>a6 md e).map (·.on)|none=>[]
def Re(md:Region.Mode)(ops:Array Oper)(last:Nat):Nat->List Nat
 |0=>uN md ops last|n+1=>Re md ops last n++(Re md ops last n).flatMap (uN md ops)
def Ar{j i}(h:i∈uN md ops j):∃o e,ops[j]?=y? o/\e∈o.after/\a6 md e=t?/\e.on=i:=by
 unfold uN at h
 cases O:ops[j]? with
 |none=>rw[O]at h;cases h
 |some o=>rw[O]at h;simp only[aZ,aQ,aH]at h;obtain⟨e,⟨U,W⟩,Y⟩:=h;exact⟨o,e,q?,U,W,Y⟩
def Jz:∀(n){i},i∈Re md ops last n->Tw md ops last i
 |0,i,h=>by
  obtain⟨o,e,O,U,W,rfl⟩:=Ar h
  exact .base O U W
 |n+1,i,h=>by
  obtain h|h:=List.mem_append.1 h
  exact Jz n h;obtain⟨j,Y,hi⟩:=List.mem_flatMap.1 h;obtain⟨o,e,O,U,W,rfl⟩:=Ar hi;exact .step (Jz n Y) O U W
def Ko(md:Region.Mode)(ops:Array Oper)(listed:Array Bool):Bool:=(ba ops.size).all λj=>!listed.getD j f? || (uN md ops j).all λi=>listed.getD i f?
def KY(h:Ko md ops listed=t?):Down md ops listed:=by intro j o O U e W hb;unfold Ko at h;rw[aW]at h;have:=h j (by simpa using(aE.1 O).1);rw[U]at this;simp only[Bool.not_true,Bool.false_or,aW]at this;refine this _ ?_;unfold uN;rw[O];simp only[aZ,aQ,aH];exact⟨e,⟨W,hb⟩,q?⟩
def Tb(md:Region.Mode)(ops:Array Oper)(last:Nat)(listed:Array Bool)(i:Nat):Bool:=a7 ops&&a9 md ops listed i&&(a5 md ops listed).contains i&&(Re md ops last ops.size).contains i&&i != last&&Ko md ops listed
def dX(i)(v){a}(U:∀y,C y->fL P oi a y (λu W=>eJ y W/\u=v))
  (h:WS P md ops last tl Sd fuel (listed.setIfInBounds i t?) C (a.put oi.dst v)) (O:ops[i]?=y? oi:=by rfl) (hb:Tb md ops last listed i=t?:=by kernel_rfl) (hC:fW eJ C:=by exact kO.wN _) (hT:im C:=by exact kO.free _)
  (Y:a4 oi (bc ops a.tmps)=t?:=by rfl):WS P md ops last tl Sd (fuel+1) listed C a:=by
 simp only[Tb,bv]at hb;obtain⟨⟨⟨⟨⟨h1,h2⟩,h3⟩,h4⟩,h5⟩,h6⟩:=hb;exact Hn O (Jz _ (u! h4)) (u! h5) (a8 h1) fuel listed C a (KY h6) (λj oj a b c d=>.inl (aA O h2 j oj a b c d)) (u! h3) hC hT (.inl ⟨Y,U⟩) h
def Iw{i a}(W:a5 md ops listed=[i])(O:i≠last)(h:um P ops i C (λY a'=>WS P md ops last tl Sd fuel (listed.setIfInBounds i t?) Y a') a):WS P md ops last tl Sd (fuel+1) listed C a:=by refine⟨by rw[W];simp,λj U=>?_⟩;rw[W]at U;simp only[aP,aO,or_false]at U;subst U;simp only[O,if_false];exact h
def Q3(U:a5 md ops listed=[]):∀(fuel t),bx md ops fuel t listed []=[]
 |0,_=>rfl
 |f+1,t=>by
  simp only[bx]
  split
  .rename_i q W
   have O:(a5 md ops listed)[t % (a5 md ops listed).length]?=y? q:=W
   rw[U]at O;cases O
  rfl
def qY{a}(U:a5 md ops listed=[last])(W:∀t,tl (bx md ops fuel t (listed.setIfInBounds last t?) []))(h:∀y,C y->Sd a y):WS P md ops last tl Sd (fuel+1) listed C a:=by refine⟨by rw[U];simp,λj O=>?_⟩;rw[U]at O;simp only[aP,aO,or_false]at O;subst O;simp only[if_true];exact⟨W,h⟩
def Hc{i a}{K:(w?->Prop)->Act->Prop}(W:Nat->v?)(D:Nat->w?->Prop)(hi:ops[i]?=y? oi)(hC:fW eJ C)(hT:im C)(hD:∀g,fW eJ (D g))(Y:∀g,im (D g))
  (hw:a4 oi (bc ops a.tmps)=t?) (hy:∀y,C y->fL P oi a y (λv U=>eJ y U/\v=W y.1.size/\D y.1.size U))
  (h:∀g,K (λy=>C y/\D g y) (a.put oi.dst (W g))):um P ops i C K a:=by
 unfold um;simp only[hi,hw,if_true];exact⟨Nat,λg y=>C y/\D g y,W,λg=>hC.and (hD g),λg=>hT.and (Y g),λ_ _ h=>h.1,λy O=>(hy y O).mono λv U ⟨h1,h2,h3⟩=>⟨h1,y.1.size,h2,hC y U O h1,h3⟩,h⟩
end
section
variable {P:P?} {ops:Array Oper} {Q:Exit->Act->w?->Prop}
def pE(P:P?)(ops:Array Oper)(Q:Exit->Act->w?->Prop)(l:List Nat)(a:Act)(w:w?):Prop:=∀b k cs,∃e O w',Q e O w'/\Arrives P (bp (b.at a (r? ops l::k)) cs w) b k cs e O w'
def oR{i rest a w}(ho:ops[i]?=y? o)(hw:a4 o (bc ops a.tmps)=t?)(hj:fL P o a w λv y=>pE P ops Q rest (a.put o.dst v) y):pE P ops Q (i::rest) a w:=by
  intro b k cs;have hg:=stepG_op (P:=P) (b:=b) (k:=k) (cs:=cs) (w:=w) (rest:=rest) ho hw
  have U:∀v,(b.at a (r? ops (i::rest)::k)).finish v=b.at (a.put o.dst v) (r? ops rest::k):=by intro v;rw[b4,ho];rfl
  unfold fL at hj
  cases hr:(bd _ o).run P w with
  |halt x w'=>rw[hr]at hj;exact hj.elim|ok n w'=>
   rw[hr]at hj;cases n<;>simp only[iJ]at hj
   case value v=>obtain⟨e,a',W,hq,O⟩:=hj b k cs;refine⟨e,a',W,hq,.of_steps (.one (bk ?_)) O⟩;rw[hg,<-U];simp[br,hr]
   case skip=>obtain⟨e,a',W,hq,O⟩:=hj b k cs;refine⟨e,a',W,hq,.of_steps (.one (bk ?_)) O⟩;rw[hg,<-U];simp[br,hr]
   case enter f args=>
    obtain⟨rfl,hc⟩:=hj;obtain⟨e,w2,fr,⟨v,rfl,hR⟩,ab,_,Y⟩:=hc _;obtain⟨e,a',W,hq,O⟩:=hR b k cs
    have aa:step P _=.next (bp (b3 P f args .normal) (b.at a (r? ops (i::rest)::k)::cs) w'):=
     bk (by rw[hg];simp[br,hr,Frame.at])
    refine⟨e,a',W,hq,.of_steps (.head aa (Steps.trans ab (.one ?_))) O⟩;rw[<-U];exact step_leave_returned Y
def Ka{i rest a w}(U:ops[i]?=y? o)(Y:a4 o (bc ops a.tmps)=f?)(h:pE P ops Q rest (a.put o.dst bG) w):pE P ops Q (i::rest) a w:=by intro b k cs;obtain⟨e,a',w',hq,O⟩:=h b k cs;have W:=step_op_skip (P:=P) (b:=b) (a:=a) (k:=k) (cs:=cs) (w:=w) (ops:=ops) (i:=i) (rest:=rest) (by simp[U,Y]);simp only[U,bD]at W;exact⟨e,a',w',hq,.of_steps (.one W) O⟩
def Ib{last τ₀}:JD P ops last λl a w=>w.tape=τ₀->pE P ops Q l a w where
 op i rest a w o _ ho hw hj ht:=oR ho hw ((show fL P o a w _ from hj w.tape).mono λ_ _ h=>h.2 (h.1.tape.trans ht))
 pass i rest a w o _ ho hw h ht:=Ka ho hw (h ht)
def A7{i a w x y r cap s rc buf tm v}(ho:ops[i]?=y? o)(Y:o.guard=x?)(aa:o.op=.send x y)(hd:o.dst=x?)(hx:a.eval x=.chan (y? r))(hy:a.eval y=v)(hc:w.1[r]?=y? (.chan cap buf f? s rc tm))(hb:buf.size<cap)
  (h:Q .normal a {w with heap:=w.1.setIfInBounds r (.chan cap (buf.push v) f? (s+1) rc tm)}):pE P ops Q [i] a w:=by
 intro b k cs;have hw:a4 o (bc ops a.tmps)=t?:=by simp[a4,Y]
 have Y:=stepG_op (P:=P) (b:=b) (k:=k) (cs:=cs) (w:=w) (rest:=[]) ho hw
 have U:bd a.eval o=pure (.comm #[{chan:=.chan (y? r),send:=y? v,zero:=bG}] t? .send):=by obtain⟨d,op,ty,ps,af,gd⟩:=o;subst aa;simp only[bd,hx,hy];rfl
 have ab:bg P t? (G (b.at a (r? ops [i]::k)) cs) w=.comm (G (b.at a (r? ops [i]::k)) cs) #[⟨.chan (y? r),y? v,bG⟩] t? .send w (bm P b.fn (if(b.kind==CallKind.early)=t? then #[]else #[])):=by show bg P t? {frame:=b.at a _,callers:=cs,status:=.running,dying:=x?} w=_;rw[Y,U];rfl
 have O:=(F9.send (P:=P) ab hc hb).next
 have W:(b.at a (r? ops [i]::k)).finish bG=b.at a (r? ops []::k):=by rw[b4,ho];simp[Act.put,hd]
 refine⟨.normal,a,_,h,.head O ?_⟩;show Steps P (bp ((b.at a (r? ops [i]::k)).finish bG) cs _) _;rw[W];exact .one step_region_end
def jC{id last}{tl:List Nat}{a w}{Sd:Act->w?->Prop}(hm:P.follows .mixedOrders=t?)(h:WS P .any ops last (· = tl) Sd ops.size (aC ops.size f?) (kO w) a)(U:∀a y,Sd a y->y.tape=w.tape->pE P ops Q (last::tl) a y):(Code.region id ops t?).wp P Q a w:=by intro b k cs;obtain⟨e,W,w',Y,O⟩:=WS.sound (Ib (P:=P) (ops:=ops) (Q:=Q) (τ₀:=w.tape)) (λa y l hl hh=>by rw[show l=tl from hl];exact U a y hh) _ _ _ _ a {w with drawn:=w.drawn+1} (kO.free w) (kO.at w _) h rfl b k cs;refine⟨e,W,w',Y,.of_steps (.one ?_) O⟩;rw[step_region_draw];simp only[aB,hm,bw,if_true];rfl
end
variable {Sd:Act->w?->Prop} {ops:Array Oper} {id last:Nat}
section
variable {P:P?} {E:Env P} {fn:bf} {tm:Array v?} {os:List OF} {wl:w?} {V:List (Nat×Option (List v?))} {k:List Item}
def jQ.calls{i rest}{o:Oper}{f args R}(hi:ops[i]?=y? o)(hC:∀τ,Bo τ wl->bo P f args (tp wl τ) R)(hR:∀e w',R e w'->∃v,e=e? v/\dk E (⟨fn,fq o.dst tm v,r? ops rest::k⟩::os) w' V) :
  jQ E ⟨b3 P f args .normal,[door P],wl⟩ (⟨fn,tm,r? ops (i::rest)::k⟩::os) V:=by
 let U:LS->Prop:=λS=>S.cs=[door P]/\∃v,S.fr.leaving P S.w (e? v)/\R (e? v) S.w;refine jQ.pq (Stop:=λS=>∃τ,U (S.on τ)) (λS τ ⟨O,h⟩=>⟨O,h⟩) (λO Y=>?_) λS' ⟨O,hc,v,hl,hr⟩=>?_;obtain⟨e,w',fr,hr,W,_,aa⟩:=hC O Y _;obtain⟨v,rfl,_⟩:=hR e w' hr;obtain⟨n,hn⟩:=W;exact⟨n,⟨fr,[door P],w'⟩,hn,⟨w'.tape,q?,v,aa,hr⟩,i!⟩;obtain⟨v',hv,hW⟩:=hR _ _ hr;cases hv;exact jQ.tape (τ:=O) (jQ.ret hi hc hl hW)
def dk.any{i rest o}(hi:ops[i]?=y? o)(av:a4 o (bc ops tm)=t?)(ho:OkOp P E.gE E.gl E.st o.op)
  (af:∀τ,iJ P (tp wl τ) (λv y=>dk E (⟨fn,fq o.dst tm v,r? ops rest::k⟩::os) y V) ((bd (kE tm) o).run P (tp wl τ))):dk E (⟨fn,tm,r? ops (i::rest)::k⟩::os) wl V:=by
 intro m Pd ρ gs w sl t fr' cs' W aw am ag h0;refine turn (Z:=E.Z) (a:=G fr' cs') (K:=λj=>(ρ j).sum) (N:=gs.size) q? ?_ ρ gs w sl t aw (λ_=>rfl) h0 rfl;intro ρ' gs' w' ax aa d t' ab hK ah hN;have ai:=ag
 cases ag with
 |@cons _ _ O l ht ay=>
  have hs:=Fj W.qR.env W.qR.strict W.qR.jf (gl:=E.gl) (ρ:=kE tm) (ρ':=kE O) (λx hx=>Ki ht W.qR.qa x hx) (λc=>⟨q?,q?⟩) o (by rw[W.gE];exact ho);have an:=ab.main.tp (along wl (w'.at d));have ao:=hs.run (tp wl (along wl (w'.at d))) (w'.at d) #[] an (qf wl (w'.at d));have ap:=hs.loc (tp wl (along wl (w'.at d))) (w'.at d) an;have hJ:=af (along wl (w'.at d));have hy:a4 o (bc ops O)=t?:=by rw[show bc ops O=bc ops tm from funext (mQ ops ht)];exact av
  have aq:=mY (P:=P) (fn:=fn) (k:=k) (rest:=rest) (cs':=cs') (w:=w'.at d) hi hy;have ar:0<gs'.size:=(aE.1 ah).1;have ac:=λv'=>jV fn O ops i rest k v';simp only[hi,bD]at ac
  cases ad:(bd (kE tm) o).run P (tp wl (along wl (w'.at d)))with
  |halt x wn=>rw[ad]at hJ;exact hJ.elim|ok n wn=>
   rw[ad]at hJ ao;obtain⟨U,n',w₁,es,e1,e2,e3,e4,_,e5,e6⟩:=ao;rw[aJ]at e1
   have au:∀e∈bm P fn (if(CallKind.normal==CallKind.early)=t? then #[]else es),qd U e:=λe he=>by have:=mem_seen he;split at this;simp at this;exact e6 e this
   have val:∀v v',VR U v v'->dk E (⟨fn,fq o.dst tm v,r? ops rest::k⟩::os) wn V->br P t? (gU fn O (r? ops (i::rest)::k)) cs' x? (bd (kE O) o) (w'.at d)=.go (G (gU fn (fq o.dst O v') (r? ops rest::k)) cs') w₁ (bm P fn (if(CallKind.normal==CallKind.early)=t? then #[]else es))->E.Z.Fin (crowd gs' w' ax) (runT P (crowd gs' (w'.at d) aa) 0) t':=by intro v v' hv hW aj;have ak:=runT_crowd_go (P:=P) (sl:=aa) (i:=0) ah (show bg P (0==0) _ (w'.at d)=_ from aq.trans aj);rw[ak];refine E.Z.next _ _ _ _ ?_;exact hW U Pd ρ' _ _ aa _ _ _ (W.le e2 e5) (ab.ym (gs':=(gs'.map (woken P _ _ w₁)).setIfInBounds 0 (G (gU fn (fq o.dst O v') (r? ops rest::k)) cs')) e2 e5 au e4 i! (ir _)) (am.le e2 hK) (.cons (o:=⟨fn,fq o.dst tm v,r? ops rest::k⟩) ((ht.mono e2).fq o.dst hv) (ay.mono e2)) (by simp[ar])
   cases n<;>simp only[iJ]at hJ
   case value v=>
    cases e3 with
    |@value _ v' hv=>refine val v v' hv hJ ?_;unfold br;simp only[if_true,e1,ac];simp[bB,G,gU]
   case skip=>
    cases e3 with
    |skip=>refine val bG bG (.undef U) hJ ?_;unfold br;simp only[if_true,e1,ac];simp[bB,G,gU]
   case enter f args=>
    obtain⟨rfl,hc⟩:=hJ
    have fl:∀τ,Bo τ (tp wl (along wl (w'.at d)))->bo P f args (tp (tp wl (along wl (w'.at d))) τ) λe az=>∃v,e=e? v/\dk E (⟨fn,fq o.dst tm v,r? ops rest::k⟩::os) az V:=by
     intro τ _;obtain⟨x,w2,ex,_⟩|⟨_,_,h3⟩:=ap
     rw[ad]at ex;cases ex;have h4:=h3 τ (by rw[ad];intro j a b;simp only[DS]at b;omega);rw[ad]at h4;have h4:(bd _ o).run P (tp wl τ)=.ok _ _:=h4;have h5:=af τ;rw[h4]at h5;exact h5.2
    have hW:=jQ.calls (E:=E) (fn:=fn) (tm:=tm) (os:=os) (V:=V) (k:=k) (rest:=rest) hi fl λe w' h=>h
    cases e3 with
    |@enter _ _ al hf hb ha=>
     have aj:br P t? (gU fn O (r? ops (i::rest)::k)) cs' x? (bd (kE O) o) (w'.at d)=.go (G (b3 P f al .normal) (gU fn O (r? ops (i::rest)::k)::cs')) w₁ (bm P fn (if(CallKind.normal==CallKind.early)=t? then #[]else es)):=by unfold br;simp only[if_true,e1];simp[bB,G,gU]
     have ak:=runT_crowd_go (P:=P) (sl:=aa) (i:=0) ah (show bg P _ _ _=_ from aq.trans aj);rw[ak];refine E.Z.next _ _ _ _ ?_;have Y:=W.le e2 e5;have ae:=ai.mono e2;exact hW U Pd ρ' _ _ aa _ _ _ _ Y (ab.ym (gs':=(gs'.map _).setIfInBounds 0 _) e2 e5 au e4 i! (ir _)) (am.le e2 hK) ae (.one (D5 (Y.qR.env.calls f hf) hb ha _ _) q? (.inl ⟨q?,ve (.inl i!) ae⟩) q?) (by simp[ar])
def wq(o)(tm)(v):(Act.put ⟨tm,[]⟩ o v)=⟨fq o tm v,[]⟩:=by cases o<;>rfl
def UY(E:Env P)(fn:bf)(ops:Array Oper)(k:List Item)(os:List OF)(V:List (Nat×Option (List v?)))(l:List Nat)(a:Act)(w:w?):Prop:=a.defers=[]->dk E (⟨fn,a.tmps,r? ops l::k⟩::os) w V
def IQ(W:∀(i)o,i≠last->ops[i]?=y? o->OkOp P E.gE E.gl E.st o.op):JD P ops last (UY E fn ops k os V) where
 op:=by intro i rest a w o hl U Y hj O;obtain⟨tm,df⟩:=a;simp only at O;subst O;refine dk.any U Y (W i o hl U) λτ=>?_;have:=hj τ;unfold fL at this;refine iJ.mono (λv y ⟨_,h⟩=>?_) this;rw[wq]at h;exact h rfl
 pass:=by intro i rest a w o _ U Y h O;obtain⟨tm,df⟩:=a;simp only at O;subst O;rw[wq]at h;exact dk.pass U Y (h q?)
def dk.Gh{tl}(hm:P.follows .mixedOrders=t?)(O:∀(i)o,i≠last->ops[i]?=y? o->OkOp P E.gE E.gl E.st o.op)(h:WS P .any ops last tl Sd ops.size (aC ops.size f?) (kO wl) ⟨tm,[]⟩)
  (U:∀a y l,tl l->Sd a y->a.defers=[]/\dk E (⟨fn,a.tmps,r? ops (last::l)::k⟩::os) y V):dk E (⟨fn,tm,.code (.region id ops t?)::k⟩::os) wl V:=by
 refine dk.SR λt=>?_;simp only[aB,hm,bw,if_true];exact WS.sound (IQ O) (λa y l W h _=>(U a y l W h).2) _ t _ _ _ wl (kO.free wl) (kO.at wl _) h rfl
def dk.J5{tl:List Nat}(hm:P.follows .mixedOrders=t?)(O:∀(i)o,i≠last->ops[i]?=y? o->OkOp P E.gE E.gl E.st o.op)(h:WS P .any ops last (· = tl) Sd ops.size (aC ops.size f?) (kO wl) ⟨tm,[]⟩)
  (U:∀a y,Sd a y->a.defers=[]/\dk E (⟨fn,a.tmps,r? ops (last::tl)::k⟩::os) y V):dk E (⟨fn,tm,.code (.region id ops t?)::k⟩::os) wl V:=
 dk.Gh hm O h λa y l W Y=>by rw[show l=tl from W];exact U a y Y
end
end
section
open Go.Conc
variable {p:Addr} {tm:Array v?} {v:v?}
structure A4(P:P?)(f:bf)(iD:Func)(s:Tmp)(ty:bn)(ops:Array Oper)(rest:Code):Prop where
 fn:P.funcs[f]?=some iD
 body:iD.body=some (.seq (.region 0 ops false) rest)
 name:iD.name≠ "runtime.NumGoroutine"
 two:∃q0 q1 a0 a1,ops=#[{dst:=some s,op:=.load ty (.tmp 0),type:=ty,pos:=q0,after:=a0,guard:=none},{dst:=none,op:=.defer {callee:=.builtin .close,args:=#[.tmp s],argTypes:=#[ty]},type:=0,pos:=q1,after:=a1,guard:=none}]
 load:∀(a:Addr)(v:v?)(w:w?),w.cell? a=some v->(bF ty (.pointer (some a)) >>= λv=>(pure (.value v):Sem Go.Next)).runT P w #[]=(.ok (.value v) w,#[⟨.cell a,false,false⟩])
def yD(P:P?):Frame:={(default:Frame)with fn:=P.funcs.size,defers:=[],mode:=.panicking [goexitEntry]}
section
variable {P:P?} {f:bf} {iD:Func} {s:Tmp} {ty:bn} {ops:Array Oper} {rest:Code}
def Ew(f:bf)(tm:Array v?)(td:List Item)(O:List Deferred):Frame:=⟨f,tm,td,O,.run,.deferred,x?⟩
def Ef(O:A4 P f iD s ty ops rest)(cap)(w):bg P f? (lX P ⟨.fn (.func f) cap,#[]⟩) w=.go (G (Ew f (cap++aC (iD.ntmps-cap.size) bG) [.code (.seq (.region 0 ops f?) rest)] []) [yD P]) w #[]:=by
 have W:(iD.name == "runtime.NumGoroutine")=f?:=by simpa using O.name
 have U:(invoke (.fn (.func f) cap) #[]).runT P w #[]=(.ok (.enter f cap) w,#[]):=by have e:invoke (.fn (.func f) cap) #[]=callFunc f _:=rfl;rw[e,aJ];unfold callFunc;have Y:∀k:P?->Sem Go.Next,(program >>= k).runT P w #[]=(k P).runT P w _:=λk=>rfl;rw[Y];simp only[O.fn,W,O.body,bu,if_false,Option.isNone_some];rfl
 have e1:bg P f? (lX P ⟨.fn (.func f) cap,#[]⟩) w=bq P (yD P) [] x? ⟨.fn (.func f) cap,#[]⟩ w:=rfl;rw[e1];unfold bq;simp only[U,Bool.false_and,bu,if_false];simp[bB,G,Ew,b3,O.fn,O.body,bm]
def EO(f)(tm)(td)(df):(Ew f tm td df).eval=kE tm:=by funext x;cases x<;>rfl
def E1(hc:A4 P f iD s ty ops rest){w ps}(hq:(P.funcs[f]?).any (·.norace)=f?)(hp:tm.getD 0 bG=p? (y? p))(hv:w.cell? p=y? v) :
  bg P f? (G (Ew f tm [r? ops [0,1],.code rest] []) [ps]) w=.go (G (Ew f (tm.setIfInBounds s v) [r? ops [1],.code rest] []) [ps]) w #[⟨.cell p,f?,f?⟩]:=by
 obtain⟨Y,q1,a0,a1,U⟩:=hc.two;have e:bg P f? (G (Ew f tm [r? ops [0,1],.code rest] []) [ps]) w=bs P f? t? (Ew f tm [r? ops [0,1],.code rest] []) _ x? w:=rfl;rw[e];have he:=EO f tm [r? ops [0,1],.code rest] []
 have W:(bd (kE tm) {dst:=y? s,op:=.load ty (.tmp 0),type:=ty,pos:=Y,after:=a0,guard:=x?}).runT P w #[]=(.ok (.value v) w,#[⟨.cell p,f?,f?⟩]):=by have e1:bd (kE tm) {dst:=y? s,op:=.load ty (.tmp 0),type:=ty,pos:=Y,after:=a0,guard:=x?}=(bF ty _ >>= λv=>pure _):=rfl;rw[e1];have e2:kE tm (.tmp 0)=p? _:=hp;rw[e2];exact hc.load p v w hv
 unfold bs;have O:ops[0]?=y? {dst:=y? s,op:=.load ty (.tmp 0),type:=ty,pos:=Y,after:=a0,guard:=x?}:=by rw[U];rfl
 simp only[Ew,O,bE,bC];rw[if_pos (by simp[a4])];unfold bt;simp only[b6,O];have aa:b7 ⟨f,tm,[r? ops _,.code rest],[],.run,.deferred,x?⟩=kE tm:=he;rw[aa];unfold br;simp only[if_true,W];simp[bB,G,b5,O,bm,hq]
def Tz(s:Tmp):Array Bool:=(#[Operand.tmp s]).map fun|.const _=>t?|_=>f?
def DD(hc:A4 P f iD s ty ops rest){w ps}(hs:tm.getD s bG=v):bg P f? (G (Ew f tm [r? ops [1],.code rest] []) [ps]) w=.go (G (Ew f tm [r? ops [],.code rest] [⟨.builtin .close #[ty] 0 (Tz s),#[v]⟩]) [ps]) w #[]:=by
 obtain⟨q0,Y,a0,a1,U⟩:=hc.two;have e:bg P f? (G (Ew f tm [r? ops [1],.code rest] []) [ps]) w=bs P f? t? (Ew f tm [r? ops [1],.code rest] []) _ x? w:=rfl;have he:=EO f tm [r? ops [1],.code rest] []
 have W:(bd (kE tm) {dst:=x?,op:=.defer {callee:=.builtin .close,args:=#[.tmp s],argTypes:=#[ty]},type:=0,pos:=Y,after:=a1,guard:=x?}).runT P w #[]=(.ok (.defer ⟨.builtin .close #[ty] 0 (Tz s),#[v]⟩) w,#[]):=by
  have ha:(#[Operand.tmp s]).map (kE tm)=#[v]:=by simp[kE,Act.eval,<-hs]
  have e1:bd (kE tm) {dst:=x?,op:=.defer {callee:=.builtin .close,args:=#[.tmp s],argTypes:=#[ty]},type:=0,pos:=Y,after:=a1,guard:=x?}=pure _:=rfl;rw[e1,ha];rfl
 rw[e];unfold bs;have O:ops[1]?=y? {dst:=x?,op:=.defer {callee:=.builtin .close,args:=#[.tmp s],argTypes:=#[ty]},type:=0,pos:=Y,after:=a1,guard:=x?}:=by rw[U];rfl
 simp only[Ew,O,bE,bC];rw[if_pos (by simp[a4])];unfold bt;simp only[b6,O];have aa:b7 ⟨f,tm,[r? ops _,.code rest],[],.run,.deferred,x?⟩=kE tm:=he;rw[aa];unfold br;simp only[if_true,W];simp[bB,G,b5,O,bm]
def B6{J m S}{cap O:Array v?}(hc:A4 P f iD s ty ops rest)(hq:(P.funcs[f]?).any (·.norace)=f?)(ah:mF P m J.gl f?)(aa:¬m.jf)(ai:Open m)(hJ:J.Ren m)(hT:J.T=[yD P])(U:eP m cap O)(aj:cap[0]?=y? (p? (y? p)))(av:s≠0)(hs:s<iD.ntmps)(hn:cap.size<=iD.ntmps)(ak:S.w.cell? p=y? (.chan (y? J.r)))(al:gG m.ok rest)
  (hS:S.fr=⟨f,(cap++aC (iD.ntmps-cap.size) bG).setIfInBounds s (.chan (y? J.r)),[.code rest],[⟨.collected J.rd,#[.chan (y? J.r)]⟩],.run,.normal,x?⟩) (ab:S.cs=[door P]):sQ P J m S 5 (lX P ⟨.fn (.func f) O,#[]⟩):=by
 have aw:∀w:w?,w.at w.drawn=w:=λw=>rfl;obtain⟨q',ac,am⟩:=U.get aj
 have an:∃p',q'=p? (y? p')/\AR m p p':=by
  cases am with
  |ptr ha=>exact⟨_,q?,ha⟩
 obtain⟨p',rfl,ad⟩:=an
 have ae:(O++aC (iD.ntmps-O.size) bG).getD 0 bG=p? (y? p'):=by have ao:0<O.size:=(aE.1 ac).1;rw[aF,Array.getElem?_append_left ao,ac];rfl
 have Y:∀w,WR m S.w w->w.cell? p'=y? (.chan (y? J.c)):=by
  intro w W;obtain⟨v',ap,aq⟩:=W.cell ad ak
  cases aq with
  |chan hb=>rw[hJ.ch]at hb;cases hb;exact ap
 have ar:O.size=cap.size:=U.size.symm;refine⟨q?,λw W=>⟨_,w.drawn,#[],Ef hc O w,i!,?_⟩⟩;refine⟨q?,λw W=>⟨G (Ew f (O++aC (iD.ntmps-O.size) bG) [.code (.region 0 ops f?),.code rest] []) [yD P],w.drawn,#[],q?,i!,?_⟩⟩;refine⟨q?,λw W=>⟨G (Ew f (O++aC (iD.ntmps-O.size) bG) [r? ops [0,1],.code rest] []) [yD P],w.drawn,#[],?_,i!,?_⟩⟩
 .obtain⟨q0,q1,a0,a1,af⟩:=hc.two;have:ba ops.size=[0,1]:=by rw[af];rfl
  show bs P f? t? (Ew f (O++aC (iD.ntmps-O.size) bG) [.code (.region 0 ops f?),.code rest] []) [yD P] x? w=_;unfold bs;simp[Ew,G,this];rfl
 refine⟨q?,λw W=>⟨_,w.drawn,_,E1 (ps:=yD P) hc hq ae (Y w W),?_,?_⟩⟩
 .intro e he;simp only[List.mem_toArray,aP,aO,or_false]at he;subst he;exact⟨q?,p,ad,λh=>by cases h⟩
 have ag:((O++aC (iD.ntmps-O.size) bG).setIfInBounds s (.chan (y? J.c))).getD s bG=.chan (y? J.c):=by
  have hz:(O++aC (iD.ntmps-O.size) bG).size=iD.ntmps:=j!;have:s<(O++aC (iD.ntmps-O.size) bG).size:=by rw[hz];exact hs
  rw[aF,Array.getElem?_setIfInBounds_self_of_lt this];rfl
 have au:=λw=>DD (ps:=yD P) (w:=w) hc ag;refine⟨q?,λw W=>⟨_,w.drawn,#[],au w,i!,?_⟩⟩;refine⟨q?,λw W=>⟨Ew f _ _ _,[yD P],w.drawn,#[],q?,i!,?_⟩⟩;refine⟨ah,aa,ai,?_,W.at _⟩;rw[ab,hS,hT];refine .one ⟨q?,?_,.cons (.code rest al) .nil,.cons ⟨.mark _ _ _ hJ.dead,.one (.chan hJ.ch)⟩ .nil,.run,.none⟩ q? (.inr ⟨q?,yD P,q?,q?⟩) rfl;rw[ar];exact(U.append (.replicate _ (.undef m))).set s (.chan hJ.ch)
end
variable {c:Array v?} {caps:List Nat} {r:Nat}
structure Ren.Bh(m m':Ren):Prop where
 blk:m'.blk=m.blk
 ch:m'.ch=m.ch
 ok:m'.ok=m.ok
 gE:m'.gE=m.gE
 jf:m'.jf=m.jf
 dead:m'.dead=m.dead
 dm:m'.dm=m.dm
 G:m'.G=m.G
 tK:m'.tK=m.tK
section
variable {m m':Ren}
def AR.lz(h:m.Bh m'){a a'}(x:AR m a a'):AR m' a a':=by cases x with|mk hb=>exact .mk (by rw[h.blk];exact hb)
def NN.lz(h:m.Bh m'){a a'}(x:NN m a a'):NN m' a a':=by
 cases x with
 |func f O=>exact .func f (by rw[h.gE];exact O)|yield hb=>exact .yield (by rw[h.blk];exact hb)
def VR.lz(h:m.Bh m'){v v'}(x:VR m v v'):VR m' v v':=by
 induction x with
 |gN v hv=>exact .gN v hv|rY O _ W U=>exact .rY O U W|bool|int|string|iE|gq|nH|jS|nilFunc|nilIface=>constructor|ptr Y=>exact .ptr (Y.lz h)|zero a hd=>exact .zero a (by rw[h.dead];exact hd)|slice l c Y=>exact .slice l c (Y.lz h)|map hb=>exact .map (by rw[h.blk];exact hb)|gone hd=>rw[<-h.dm];exact .gone (by rw[h.dead];exact hd)|chan hb=>exact .chan (by rw[h.ch];exact hb)|func hf O _ W _ i1 i2=>exact .func (hf.lz h) O i1 W i2|iface t _ U=>exact .iface t U|agg O _ U=>exact .agg O U|tuple O _ U=>exact .tuple O U
def eP.lz(h:m.Bh m'){c'}(x:eP m c c'):eP m' c c':=dY.mono (λ_ _=>VR.lz h) x
def TR.lz(h:m.Bh m'){a a'}(x:TR m a a'):TR m' a a':=by
 cases x with
 |fn O=>exact .fn (O.imp (λy=>⟨y.1.lz h,y.2.lz h⟩) id)|nil=>exact .nil|builtin a t c hm=>exact .builtin a t c (by rw[h.jf];exact hm)|mark a t c U=>exact .mark a t c (by rw[h.dead];exact U)|collected hb=>exact .collected (by rw[h.blk];exact hb)
def DR.lz(h:m.Bh m'){a a'}(x:DR m a a'):DR m' a a':=⟨x.target.lz h,x.args.lz h⟩
def uI.lz(h:m.Bh m'){a a'}(x:uI m a a'):uI m' a a':=⟨x.key.lz h,x.val.lz h,x.born⟩
def xK.lz(h:m.Bh m'){a a'}(x:xK m a a'):xK m' a a':=
 ⟨x.state,x.pending,λc O=>by rw[h.ok];exact x.UK c O,x.fn,x.tmps.lz h,x.params,x.assign,x.body,by rw[h.ok];exact x.UE,by rw[h.ok];exact x.yz,by rw[h.blk];exact x.defers⟩
def OR.lz(h:m.Bh m'){a a'}(x:OR m a a'):OR m' a a':=by
 cases x with
 |cells e f f' O=>exact .cells e f f' (O.lz h)|map clock U=>exact .map clock (dY.mono (λ_ _ y=>y.lz h) U)|number l W=>exact .number l (W.lz h)|stringIter s p=>exact .stringIter s p|gW a b c=>exact .gW a b c|mapIter a b c hb=>exact .mapIter a b c (by rw[h.blk];exact hb)|loop Y=>exact .loop (Y.lz h)|fF=>exact .fF|deferred hd=>exact .deferred (dY.mono (λ_ _ y=>y.lz h) hd)
def pC.lz(h:m.Bh m'){T os l}(x:pC m T os l):pC m' T os l:=by
 induction x with
 |nil=>exact .nil|cons O _ U=>exact .cons (O.lz h) U
end
def QV:Obj->Obj
 |c? c e _=>c? c e (0,c.size)|o=>o
def uu(w:w?)(caps:List Nat):w?:={w with heap:=w.1.mapIdx λi o=>if i∈caps then QV o else o}
def Ren.Bw(m:Ren)(caps:List Nat):Ren:={m with loose:=λr=>m.loose r\/r∈caps}
def Ren.Ct(m:Ren)(caps):m.Bh (m.Bw caps):=⟨q?,q?,q?,q?,q?,q?,q?,q?,q?⟩
def CY(w)(caps)(r):(uu w caps).1[r]?=(w.1[r]?).map λo=>if r∈caps then QV o else o:=by unfold uu;simp only[Array.getElem?_mapIdx]
def AC(w)(caps):(uu w caps).1.size=w.1.size:=by simp[uu]
def tv(w)(h:r ∉ caps):(uu w caps).1[r]?=w.1[r]?:=by rw[CY];cases w.1[r]?<;>simp[h]
def Eg(w)(h:r∈caps){e f}(O:w.1[r]?=y? (c? c e f)):(uu w caps).1[r]?=y? (c? c e (0,c.size)):=by rw[CY,O];simp[h,QV]
def WR.Bw{m wl w}(h:WR m wl w)(hc:∀r∈caps,∃c e f,wl.1[r]?=y? (.cells c e f))(hd:∀r∈caps,¬m.dead r):WR (m.Bw caps) (uu wl caps) w:=by
 have lz:=m.Ct caps
 have back:∀r c e f,(uu wl caps).1[r]?=y? (.cells c e f)->∃f0,wl.1[r]?=y? (.cells c e f0)/\(r ∉ caps->f0=f)/\(r∈caps->f=(0,c.size)):=by intro r c e f hr;by_cases O:r∈caps;obtain⟨c0,e0,f0,U⟩:=hc r O;rw[Eg wl O U]at hr;cases hr;exact⟨f0,U,λx=>absurd O x,λ_=>rfl⟩;rw[tv wl O]at hr;exact⟨f,hr,λ_=>rfl,λx=>absurd x O⟩
 refine⟨λr r' hb=>?_,λr r' c e f c' e' f' hb h1 h2 hn=>?_,λr r' c e f c' e' f' hb h1 h2 hl=>?_,λr r' hb=>?_,?_,h.KV,h.os,λr o ho=>?_,λr r' hb hl=>?_,λr hr=>?_,λr i v hv=>?_⟩;obtain⟨o,o',Y,g2,g3⟩:=h.obj r r' hb;by_cases O:r∈caps;obtain⟨c0,e0,f0,U⟩:=hc r O;rw[U]at Y;cases Y
 cases g3 with
 |cells _ _ f' aa=>exact⟨_,_,Eg wl O U,g2,.cells _ _ _ (aa.lz lz)⟩
 exact⟨o,o',by rw[tv wl O];exact Y,g2,g3.lz lz⟩;obtain⟨f0,U,x,_⟩:=back r c e f h1;have W:r ∉ caps:=λy=>hn (.inr y);rw[<-x W];exact h.fz r r' c e f0 c' e' f' hb U h2 λy=>hn (.inl y);obtain⟨f0,U,x,y⟩:=back r c e f h1;by_cases O:r∈caps;rw[y O];exact λo ho=>⟨b2 _,ho⟩;rw[<-x O];exact h.all r r' c e f0 c' e' f' hb U h2 (hl.resolve_right O);have:=h.NO r r' hb;exact⟨by rw[AC];exact this.1,this.2⟩;show m.G<=(uu wl caps).1.size;rw[AC];exact h.NJ;obtain⟨Y,g2⟩:=h.lS r o ho;refine⟨?_,g2⟩
 have W:r ∉ caps:=λO=>by obtain⟨c0,e0,f0,U⟩:=hc r O;obtain⟨a,b,c,d,e,f,rfl⟩:=g2;rw[U]at Y;cases Y
 rw[tv wl W];exact Y;by_cases O:r∈caps;obtain⟨c0,e0,f0,U⟩:=hc r O;exact⟨_,_,_,Eg wl O U⟩;obtain⟨c0,e0,f0,U⟩:=h.lk r r' hb (hl.resolve_right O);exact⟨_,_,_,by rw[tv wl O];exact U⟩;obtain⟨Y,c0,f0,g⟩:=h.dead r hr;have W:r ∉ caps:=λO=>hd r O hr;exact⟨Y,c0,f0,by rw[tv wl W];exact g⟩;obtain⟨r',hb,hp⟩:=h.tK r i v hv;refine⟨r',hb,λc e f c' e' f' x Y g2=>?_⟩;obtain⟨f0,U,_,_⟩:=back r c e f Y;exact hp c e f0 c' e' f' x U g2
variable {c i:Nat} {B:Nat->Nat} {M:Option Nat}
def UD:Obj:=c? #[] 0 (0,0)
def Lf(C:Nat->Obj)(ch ex:Obj):Array Obj:=#[UD,UD,UD,UD,UD,C 0,C 1,C 2,C 3,UD,ch,ex]
def Jx(B:Nat->Nat)(M:Option Nat)(r:Nat):Option Nat:=if 5<=r/\r<9 then y? (B (r-5))else if r=11 then M else x?
structure VG(B:Nat->Nat)(M:Option Nat):Prop where
 low:∀i,i<4->5<=B i
 inj:∀i j,i<4->j<4->B i=B j->i=j
 VQ:∀b,M=some b->5<=b
 Wz:∀b i,M=some b->i<4->B i≠b
def iQ{r b}(h:Jx B M r=y? b):(∃i,i<4/\r=5+i/\b=B i)\/(r=11/\M=y? b):=by
 unfold Jx at h;split at h;exact .inl ⟨r-5,o!,o!,(Option.some.inj h).symm⟩;split at h;rename_i O;exact .inr ⟨O,h⟩
 cases h
def MY(B)(M)(O:i<4):Jx B M (5+i)=y? (B i):=by unfold Jx;rw[if_pos o!];congr 2;omega
def B9{B M}(h:VG B M)(c:Nat)(ch:Obj):Ren where
 blk:=Jx B M
 ch:=λr=>if r=10 then y? c else x?
 loose:=λr=>5<=r/\r<9
 ok:=Qs prog uY Di f?
 gE:=λf=>uY f=t?
 jf:=False
 dead:=λr=>r=9
 dm:=λ_=>0
 tK:=λ_ _=>x?
 lS:=λr=>if r=10 then y? ch else x?
 G:=5
 qa:=λr r' O=>by
  obtain⟨i,Y,rfl,rfl⟩|⟨rfl,U⟩:=iQ O
  .have:=h.low i Y
   constructor<;>intro x<;>omega
  .have:=h.VQ r' U
   constructor<;>intro x<;>omega
 inj:=λr s t O W=>by
  obtain⟨i,Y,rfl,rfl⟩|⟨rfl,U⟩:=iQ O
  .obtain⟨j,hj,rfl,e⟩|⟨rfl,U⟩:=iQ W
   .rw[h.inj i j Y hj e]
   .exact absurd q? (h.Wz _ i U Y)
  .obtain⟨j,hj,rfl,rfl⟩|⟨rfl,_⟩:=iQ W
   .exact absurd q? (h.Wz _ j U hj)
   .rfl
 xu:=λr s t O W=>by
  split at O
  .split at W
   .rename_i e1 e2;rw[e1,e2]
   .cases W
  .cases O
def Pj(h:VG B M)(c)(ch):mF prog (B9 h c ch) (λg=>Di g=t?) f?:=Sy q? q? rfl
def Cj(C)(ch ex)(O:i<4):(Lf C ch ex)[5+i]?=y? (C i):=by
 match i,O with
 |0,_=>rfl|1,_=>rfl|2,_=>rfl|3,_=>rfl
def WR.Uq(h:VG B M){C cap ex}{Sw w:w?}(Y:Sw.1=Lf C (.chan cap #[] f? 0 0 f?) ex)(ab:w.os=Sw.os)(ac:5<=w.1.size)(hc:c<w.1.size)
  (U:∀i,i<4->∃a a' e f',C i=.cells a e (0,a.size)/\w.1[B i]?=y? (.cells a' e f')/\eP (B9 h c (.chan cap #[] f? 0 0 f?)) a a')
  (hM:∀b,M=y? b->∃o',w.1[b]?=y? o'/\OR (B9 h c (.chan cap #[] f? 0 0 f?)) ex o'/\∀a e f,ex≠.cells a e f):WR (B9 h c (.chan cap #[] f? 0 0 f?)) Sw w:=by
 have get:∀i,i<4->Sw.1[5+i]?=y? (C i):=λi W=>by rw[Y];exact Cj C _ ex W
 have aa:Sw.1[11]?=y? ex:=by rw[Y];rfl
 refine⟨λr r' O=>?_,λr r' c1 e1 f1 c2 e2 f2 O h1 h2 hn=>?_,λr r' c1 e1 f1 c2 e2 f2 O h1 h2 hl=>?_,λr r' O=>?_,(by rw[Y];show 5<=12;omega),ac,ab,λr o O=>?_,λr r' O hl=>?_,λr O=>?_,λr i v hv=>(by cases hv)⟩;obtain⟨i,W,rfl,rfl⟩|⟨rfl,hm⟩:=iQ O
 obtain⟨a,a',e,f',x1,x2,x3⟩:=U i W;exact⟨_,_,by rw[get i W,x1],x2,.cells e _ f' x3⟩;obtain⟨o',x1,x2,_⟩:=hM r' hm;exact⟨_,_,aa,x1,x2⟩;obtain⟨i,W,rfl,rfl⟩|⟨rfl,hm⟩:=iQ O
 exact absurd (show(B9 h c (.chan cap #[] f? 0 0 f?)).loose (5+i)from⟨o!,o!⟩) hn;rw[aa]at h1;obtain⟨_,_,_,x⟩:=hM r' hm;cases h1;exact absurd q? (x _ _ _);obtain⟨i,W,rfl,rfl⟩|⟨rfl,hm⟩:=iQ O
 obtain⟨a,a',e,f',x1,x2,x3⟩:=U i W;rw[get i W,x1]at h1;cases h1;exact λo ho=>⟨b2 _,ho⟩;exact absurd hl.2 o!;have O:(if r=10 then y? c else x?)=y? r':=O;split at O;rename_i e;cases O;exact⟨by rw[Y,e];show 10<12;omega,hc⟩
 cases O;have O:(if r=10 then y? (.chan cap #[] f? 0 0 f?)else x?)=y? o:=O;split at O;rename_i e;cases O;exact⟨by rw[Y,e];rfl,_,_,_,_,_,_,q?⟩
 cases O;obtain⟨i,W,rfl,rfl⟩|⟨rfl,hm⟩:=iQ O
 obtain⟨a,a',e,f',x1,x2,x3⟩:=U i W;exact⟨_,_,_,by rw[get i W,x1]⟩;exact absurd hl.2 o!;have e:r=9:=O;subst e;exact⟨by simp[B9,Jx],_,_,by rw[Y];rfl⟩
def OV(P:P?)(f:bf)(L:List v?)(O:w?->Prop)(S:LS):Prop:=S.cs=[door P]/\S.fr.mode=.returning/\S.fr.defers=[⟨.collected 9,#[.chan (y? 10)]⟩]/\S.fr.fn=f/\Holds S 10 L/\O S.w
def T4(P:P?)(f:bf)(L:List v?)(c:Nat)(O:w?->Prop)(nF:Nat->Nat->Obj->Prop):qK where
 gl:=λg=>Di g=t?
 T:=[yD P]
 Stop:=OV P f L O
 r:=10
 c:=c
 rd:=9
 L:=L
 nF:=nF
def RI{f L}{O:w?->Prop}{nF:Nat->Nat->Obj->Prop}{iD}(hf:prog.funcs[f]?=y? iD)(hr:iD.results=#[])(hn:iD.norace=f?)(hb:∀w τ,O (tp w τ)->O w)(hk:∀w,O w->∀r b o,nF r b o->w.1[r]?=y? o/\∀(m)o',OR m o o'->o'=o):(T4 prog f L c O nF).Ok prog where
 blind:=λS τ ⟨U,W,Y,h4,h5,h6⟩=>⟨U,W,Y,h4,h5,hb _ _ h6⟩
 holds:=λS h=>h.2.2.2.2.1;Vq:=λS ⟨U,W,Y,h4,_⟩=>⟨U,W,Y,iD,by rw[h4];exact hf,hr,hn⟩;back:=λS h r b o x=>hk S.w h.2.2.2.2.2 r b o x
 W5:=⟨yD prog,q?,q?,q?,by
  show prog.funcs[prog.funcs.size]?=x?
  simp,q?⟩
end
section
open Go.Conc
variable {m:Ren}
def yF(b:Nat->Nat):Array v?:=#[p? (y? ⟨b 0,0,x?⟩),p? (y? ⟨b 1,0,x?⟩),p? (y? ⟨b 2,0,x?⟩),p? (y? ⟨b 3,0,x?⟩)]
def Oc(b){i}(O:i<4):(yF b)[i]?=y? (p? (y? ⟨b i,0,x?⟩)):=by
 match i,O with
 |0,_=>rfl|1,_=>rfl|2,_=>rfl|3,_=>rfl
def Of{b B}(h:∀i,i<4->m.blk (b i)=y? (B i)):eP m (yF b) (yF B):=
 .cons (.ptr (.mk (h 0 o!))) (.cons (.ptr (.mk (h 1 o!))) (.cons (.ptr (.mk (h 2 o!))) (.cons (.ptr (.mk (h 3 o!))) .nil)))
def Pn{b O}(h:eP m (yF b) O):∃B,O=yF B/\∀i,i<4->m.blk (b i)=y? (B i):=by
 have W:=h.size
 have get:∀i,i<4->∃B,O[i]?=y? (p? (y? ⟨B,0,x?⟩))/\m.blk (b i)=y? B:=by
  intro i U;obtain⟨v',Y,h2⟩:=h.get (Oc b U)
  cases h2 with
  |ptr ha=>
   cases ha with
   |mk hb=>exact⟨_,Y,hb⟩
 obtain⟨B0,a0,e0⟩:=get 0 o!;obtain⟨B1,a1,e1⟩:=get 1 o!;obtain⟨B2,a2,e2⟩:=get 2 o!;obtain⟨B3,a3,e3⟩:=get 3 o!;refine⟨λi=>match i with|0=>B0|1=>B1|2=>B2|_=>B3,?_,λi U=>?_⟩;apply Array.ext_getElem?;intro i;match i with
 |0=>rw[a0];rfl|1=>rw[a1];rfl|2=>rw[a2];rfl|3=>rw[a3];rfl|i+4=>have:O.size=4:=W.symm;rw[aD o!,aD (by show 4<=i+4;omega)]
 match i,U with
 |0,_=>exact e0|1,_=>exact e1|2,_=>exact e2|3,_=>exact e3
def Rg.Bw{P}{E E₂:Env P}(h:Rg E m)(caps)(O:∀m,m.ok=E₂.ok->m.gE=E₂.gE->m.G=P.globals.size->mF P m E₂.gl E₂.st)(U:E₂.gE=E.gE)(W:E₂.ok=E.ok)(Y:E₂.X (m.Bw caps)):Rg E₂ (m.Bw caps):=
 ⟨O _ (h.U0.trans W.symm) (h.gE.trans U.symm) h.qR.env.G,h.jf,h.nT,h.gE.trans U.symm,h.U0.trans W.symm,Y⟩
structure WJ(E E₂:Env prog)(wl:w?)(rc:Nat)(b:Nat->Nat)(cm cd:Nat->Array v?)(te:Nat->bn)(fz:Nat->Nat×Nat)(M:Option Nat)(ex:Obj):Prop where
 z:E₂.Z=E.Z
 t:E₂.T=E.T
 w:E₂.w0=E.w0
 gE:E₂.gE=E.gE
 ok:E₂.ok=E.ok
 qR:∀m:Ren,m.ok=E₂.ok->m.gE=E₂.gE->m.G=prog.globals.size->mF prog m E₂.gl E₂.st
 x:∀m,Rg E m->E₂.X (m.Bw [b 0,b 1,b 2,b 3])
 fix:∀q,E₂.gu q↔E.gu q/\M≠some q
 low:∀i,i<4->5<=b i
 inj:∀i j,i<4->j<4->b i=b j->i=j
 cells:∀i,i<4->wl.1[b i]?=some (.cells (cm i) (te i) (fz i))
 live:∀m,Rg E m->∀i,i<4->¬m.dead (b i)
 m0:cm 0=#[.chan (some rc)]
 d0:cd 0=#[.chan (some 10)]
 conv:∀i,1<=i->i<4->∀(m mi:Ren)w a',Rg E m->WR m wl w->(∀q,M=some q->mi.blk 11=some q)->eP m (cm i) a'->eP mi (cd i) a'
 map:∀q,M=some q->5<=q/\E.gu q/\E.w0.1[q]?=some ex/\(∀m:Ren,OR m ex ex)/\(∀(m:Ren)o',OR m ex o'->o'=ex)/\(∀a e f,ex≠.cells a e f)/\∀(m:Ren)(r:Nat)(o:Obj),wl.1[r]?=some o->¬OR m o ex
def uE(wl:w?)(cd:Nat->Array v?)(te:Nat->bn)(cap:Nat)(ex:Obj):w?:={wl with heap:=Lf (λi=>c? (cd i) (te i) (0,(cd i).size)) (.chan cap #[] f? 0 0 f?) ex}
def xe(f:bf)(n:Nat)(s:Tmp)(rest:Code):Frame:=⟨f,(yF (λi=>5+i)++aC (n-4) bG).setIfInBounds s (.chan (y? 10)),[.code rest],[⟨.collected 9,#[.chan (y? 10)]⟩],.run,.normal,x?⟩
def He{E E₂ f iD s ty ops rest wl rc b cm cd te fz M ex L cap os}
  (hc:A4 prog f iD s ty ops rest) (ap:iD.results=#[]) (aq:iD.norace=f?) (ax:s≠0) (hs:s<iD.ntmps) (hn:4<=iD.ntmps) (ay:ll (λo=>GN prog uY Di f? o.op) rest=t?) (hL:∀v∈L,Flat v) (U:WJ E E₂ wl rc b cm cd te fz M ex)
  (ar:∀τ,∃n aa,runN prog n (bp (xe f iD.ntmps s rest) [door prog] (tp (uE wl cd te cap ex) τ))=.next (LS.m aa)/\OV prog f L (λw=>M=x?\/w.1[11]?=y? ex) aa) :
  Sends E E₂ f (yF b) os os wl (uu wl [b 0,b 1,b 2,b 3]) rc L:=by
 refine⟨U.z,U.t,U.w,λq hq=>((U.fix q).1 hq).1,λv hv=>(hL v hv).eq,λm az w c ab ag hw a0 au ac=>?_⟩;obtain⟨B,rfl,hB⟩:=Pn ag;have hG:m.G=5:=by rw[ab.qR.env.G,zZ]
 have ah:∀r,r∈[b 0,b 1,b 2,b 3]↔∃i,i<4/\r=b i:=by
  intro r;constructor;intro h;simp only[aP,aO,or_false]at h;obtain h|h|h|h:=h
  exact⟨0,o!,h⟩;exact⟨1,o!,h⟩;exact⟨2,o!,h⟩;exact⟨3,o!,h⟩;rintro⟨i,O,rfl⟩;match i,O with
  |0,_=>simp|1,_=>simp|2,_=>simp|3,_=>simp
 have ai:∀q,M=y? q->∀r,m.blk r≠y? q:=by intro q hq r W;obtain⟨_,Y,h3,_,_,_,h7⟩:=U.map q hq;obtain⟨o,o',e1,e2,e3⟩:=hw.obj r q W;rw[ac q Y,h3]at e2;cases e2;exact h7 m r o e1 e3
 have hS:VG B M:=by refine⟨λi O=>?_,λi j O hj e=>?_,λq hq=>(U.map q hq).1,λq i hq O e=>?_⟩;have:=(m.qa (b i) (B i) (hB i O)).2;rw[hG]at this;have h5:=U.low i O;apply Classical.byContradiction;intro hx;have:=this o!;omega;exact U.inj i j O hj (m.inj _ _ _ (hB i O) (e▸hB j hj));exact ai q hq (b i) (e▸hB i O)
 let mi:=B9 hS c (.chan cap #[] f? 0 0 f?);have ad:∀q,M=y? q->mi.blk 11=y? q:=λq hq=>by simp[mi,B9,Jx,hq]
 have ae:mi.ch 10=y? c:=by simp[mi,B9]
 have av:c<w.1.size:=by obtain⟨s,r,hx⟩:=au;exact lh hx
 have aj:∀i,i<4->∃a',∃f',w.1[B i]?=y? (c? a' (te i) f')/\eP m (cm i) a':=by
  intro i O;obtain⟨o,o',h1,Y,h3⟩:=hw.obj (b i) (B i) (hB i O);rw[U.cells i O]at h1;cases h1
  cases h3 with
  |cells _ _ f' ha=>exact⟨_,f',Y,ha⟩
 have ak:∀i,i<4->∀a',eP m (cm i) a'->eP mi (cd i) a':=by
  intro i O a' ha;by_cases h0:i=0;subst h0;rw[U.m0]at ha;rw[U.d0];obtain⟨al⟩:=a';unfold eP at ha⊢;simp only at ha⊢
  cases ha with
  |cons hv hn=>
   cases hn
   cases hv with
   |chan hb=>rw[a0]at hb;cases hb;exact .cons (.chan ae) .nil
  exact U.conv i o! O m mi w a' ab hw ad ha
 have a1:WR mi (uE wl cd te cap ex) w:=by refine WR.Uq (C:=λi=>c? (cd i) (te i) (0,(cd i).size)) (ex:=ex) hS q? hw.os (v! hw.KV) av (λi O=>?_) (λq hq=>?_);obtain⟨a',f',h1,Y⟩:=aj i O;exact⟨cd i,a',te i,f',q?,h1,ak i O a' Y⟩;obtain⟨_,Y,h3,h4,_,h6,_⟩:=U.map q hq;exact⟨ex,by rw[ac q Y,h3],h4 mi,h6⟩
 have am:∀r r',mi.ch r=y? r'->r=10:=by
  intro r r' W;have W:(if r=10 then y? c else x?)=y? r':=W;split at W;rename_i e;exact e
  cases W
 have aw:=Pj hS c (.chan cap #[] f? 0 0 f?)
 have af:(T4 prog f L c (λw=>M=x?\/w.1[11]?=y? ex) (λr q o=>r=11/\M=y? q/\o=ex)).Ren mi:=
  ⟨ae,am,q?,λr q o ⟨h1,Y,_⟩=>by rw[h1];exact ad q Y⟩
 have an:Open mi:=λr r' W=>by
  have W:(if r=10 then y? c else x?)=y? r':=W;split at W;rename_i e;exact⟨cap,#[],0,0,f?,by simp[mi,B9,e]⟩
  cases W
 let S:LS:=⟨xe f iD.ntmps s rest,[door prog],uE wl cd te cap ex⟩;have ao:=m.Ct [b 0,b 1,b 2,b 3];refine⟨T4 prog f L c (λw=>M=x?\/w.1[11]?=y? ex) (λr q o=>r=11/\M=y? q/\o=ex),mi,S,5,m.Bw [b 0,b 1,b 2,b 3],q?,q?,RI hc.fn ap aq (λw τ h=>h) (λw hk r q o ⟨h1,Y,h3⟩=>?_),af,λτ _=>?_,?_,a1,?_,ab.Bw _ U.qR U.gE U.ok (U.x m ab),hw.Bw (λr W=>?_) (λr W=>?_),q?,λl hl=>hl.lz ao,λr q W=>⟨r,W,λh=>.inl h⟩,λr q W=>?_,λr r' q h1 Y=>?_,λr q W hf=>?_,λq hq=>?_⟩;subst h1 h3;obtain⟨_,_,_,_,h5,_⟩:=U.map q Y;exact⟨hk.resolve_left (by rw[Y];simp),h5⟩;obtain⟨n,aa,h1,Y⟩:=ar τ;exact⟨n,aa,h1,Y,by rw[Y.1];simp⟩;exact⟨cap,#[],0,0,f?,q?,q?⟩;refine B6 (cap:=yF λi=>5+i) (p:=⟨5,0,x?⟩) hc (by rw[hc.fn];simp[aq]) aw (λh=>h) an af q? (Of λi O=>MY B M O) q? ax hs hn ?_ (qE ay) q? rfl;show(uE wl cd te cap ex).cell? ⟨5,0,x?⟩=_
 have hg:(uE wl cd te cap ex).1[5]?=y? (c? #[.chan (y? 10)] (te 0) (0,1)):=by show(Lf _ _ _)[5]?=_;rw[show(5:Nat)=5+0 from rfl,Cj _ _ _ (o!:(0:Nat)<4),U.d0];rfl
 unfold World.cell?;simp only[hg];rfl;obtain⟨i,O,rfl⟩:=(ah r).1 W;exact⟨_,_,_,U.cells i O⟩;obtain⟨i,O,rfl⟩:=(ah r).1 W;exact U.live m ab i O;obtain⟨i,O,rfl,rfl⟩|⟨rfl,hm⟩:=iQ W
 exact .inl ⟨b i,hB i O,λ_=>⟨o!,o!⟩⟩;obtain⟨_,Y,_,_,_,_,h7⟩:=U.map q hm;exact .inr ⟨Y,ai q hm,λhx=>((U.fix q).1 hx).2 hm⟩;obtain⟨i,O,rfl,rfl⟩|⟨rfl,hm⟩:=iQ Y
 have:=m.inj _ _ _ h1 (hB i O);exact⟨.inr ((ah r).2 ⟨i,O,this⟩),o!,o!⟩;exact absurd h1 (ai q hm r);obtain⟨i,O,rfl,rfl⟩|⟨rfl,hm⟩:=iQ W
 exact⟨o!,o!⟩;exact absurd hm ((U.fix q).1 hf).2;by_cases hm:M=y? q;exact .inr ⟨11,ex,⟨q?,hm,q?⟩,(U.map q hm).2.2.1⟩;exact .inl ((U.fix q).2 ⟨hq,hm⟩)
open Go.RowKit
def xj(f:Func):Code:=match f.body with
 |some (.seq _ r)=>r|_=>.skip
def opsOf(f:Func):Array Oper:=match f.body with
 |some (.seq (.region _ o _) _)=>o|_=>#[]
def KI(a)(v)(w)(h:w.cell? a=y? v):(bF 167 (p? (y? a)) >>= λv=>(pure (.value v):Sem Go.Next)).runT prog w #[]=(.ok (.value v) w,#[⟨.cell a,f?,f?⟩]):=by
 have O:∀w,(isAgg 167).runT prog w #[]=(.ok f? w,#[]):=by intro w;kernel_rfl
 have U:(bF 167 (p? (y? a)) >>= λv=>(pure (.value v):Sem Go.Next))=(isAgg 167 >>= λb=>((if b=t? then(do pure (.agg (<-loadCells a (<-sizeOf 167))))else load a) >>= λv=>(pure (.value v)))):=by show(loadVar _ a >>= _)=_;unfold loadVar;rw[bind_assoc]
 rw[U];show((isAgg _).bind _).runT .. = _;rw[Sem.runT_bind',O];show(load a >>= λv=>(pure _)).runT .. = _;have W:(load a >>= λv=>(pure (.value v):Sem Go.Next))=.load _ a _:=rfl;rw[W];simp only[Sem.runT,h];rfl
def Vj:A4 prog 120 f120 6 167 (opsOf f120) (xj f120):=
 ⟨k!,k!,d!,⟨_,_,_,_,q?⟩,KI⟩
def UN:A4 prog 116 f116 4 167 (opsOf f116) (xj f116):=
 ⟨k!,k!,d!,⟨_,_,_,_,q?⟩,KI⟩
def Ve:ll (λo=>GN prog uY Di f? o.op) (xj f120)=t?:=by kernel_rfl
def UH:ll (λo=>GN prog uY Di f? o.op) (xj f116)=t?:=by kernel_rfl
end
section
open Go.Conc
def qw:Item->Item
 |.code y=>.code (BZ y)|.inLoop y=>.inLoop (BZ y)|x=>x
def lG:Item->Bool
 |.code _|.inLoop _|.inBlock _=>t?|_=>f?
def Pz{m}:∀{k},k.all lG=t?->dY (kU m) (k.map qw) k
 |[],_=>.nil|x::k,h=>by simp only[aR,bv]at h;refine .cons ?_ (Pz h.2);cases x<;>first|exact .FP _|exact .ni _|exact .inBlock _|(simp[lG]at h)
def G9{m}:∀{k k'},k.all lG=t?->dY (kU m) (k.map qw) k'->k'=k
 |[],_,_,h=>by cases h;rfl
 |x::k,_,Y,h=>by
  simp only[aR,bv]at Y
  cases h with
  |cons U ht=>
   rw[G9 Y.2 ht]
   cases x with
   |code y=>
    simp only[qw]at U;generalize O:Item.code _=z at U
    cases U with
    |FP y'=>simp only[BZ,Item.code.injEq,Code.cond.injEq]at O;rw[O.2.1]|code c W=>simp only[Item.code.injEq]at O;rw[<-O]at W;exact W.1.elim|_=>cases O
   |inLoop y=>
    simp only[qw]at U;generalize O:Item.inLoop _=z at U
    cases U with
    |ni y'=>simp only[BZ,Item.inLoop.injEq,Code.cond.injEq]at O;rw[O.2.1]|inLoop c W=>simp only[Item.inLoop.injEq]at O;rw[<-O]at W;exact W.1.elim|_=>cases O
   |inBlock i=>cases U;rfl
   |_=>simp[lG]at Y
def sf(id):∀(k:List Item),bl id (k.map qw)=(bl id k).map (·.map qw)
 |[]=>rfl|x::k=>by
  cases x with
  |inBlock i=>simp only[aY,qw];unfold bl;split;rfl;exact sf id k
  |_=>exact sf id k
def exitTo_plain{id}:∀{k k'},k.all lG=t?->bl id k=y? k'->k'.all lG=t?
 |[],_,_,e=>by cases e
 |x::k,k',O,e=>by
  simp only[aR,bv]at O
  cases x with
  |inBlock i=>
   unfold bl at e;split at e
   cases e;exact O.2;exact exitTo_plain O.2 e
  |_=>exact exitTo_plain O.2 e
section
variable {P:P?} {E:Env P} {fn:bf} {tm:Array v?} {os:List OF} {wl:w?} {V:List (Nat×Option (List v?))} {k:List Item}
def jQ.Uv{S}(hk:k.all lG=t?)(hf:wF E os)(aa:S.cs=[door P])(ab:S.fr=gU fn tm (k.map qw))(h:dk E (⟨fn,tm,k⟩::os) S.w V):jQ E S os V:=by
 intro m Pd ρ gs w sl t fr' cs' Tc ac ad ae O U h0;have hF:=U.rM;rw[aa]at U;have W:=ve hf O
 obtain⟨rfl,Y⟩:cs'=Tc/\fr'.kind=.normal:=by
  cases U with
  |one _ _ hb _=>
   refine⟨q?,?_⟩;obtain⟨x,_⟩|⟨_,ps,e,x⟩:=hb
   exact x;exact absurd x (W ps e)
  |cons _ _ _ hx=>cases hx
 rw[ab]at hF;obtain⟨f1,f2,f3,f4,f5,f6⟩:=hF;obtain⟨af,ag,ah,ai,aj,ak,al⟩:=fr';have:=G9 hk f3;subst this f1 Y;cases f4;cases f5;cases f6;exact h m Pd ρ gs w sl t _ _ ac ad ae (.cons (o:=⟨_,tm,_⟩) f2 O) h0
def dk.code{c Q}(ag:gG E.ok c)(hk:k.all lG=t?)(hf:wF E os)(h:∀τ,Bo τ wl->c.wp P Q ⟨tm,[]⟩ (tp wl τ))
  (hn:∀e a w',Q e a w'->a.defers=[]/\∃k',((e=.normal/\k'=k)\/∃id,e=.exit id/\bl id k=y? k')/\dk E (⟨fn,a.tmps,k'⟩::os) w' V):dk E (⟨fn,tm,.code c::k⟩::os) wl V:=by
 have hS:jQ E ⟨gU fn tm (.code c::k.map qw),[door P],wl⟩ os V:=by
  let W:LS->Prop:=λS=>S.cs=[door P]/\∃Y k',k'.all lG=t?/\S.fr=gU fn Y (k'.map qw)/\dk E (⟨fn,Y,k'⟩::os) S.w V;refine jQ.pq (Stop:=λS=>∃τ,W (S.on τ)) (λS τ ⟨O,h⟩=>⟨O,h⟩) (λO ac=>?_) λS' ⟨O,hc,Y,k',h1,h2,h3⟩=>?_;obtain⟨e,a,w',hq,U⟩:=h O ac (gU fn #[] []) (k.map qw) [door P];obtain⟨hd,k',ah,hW⟩:=hn e a w' hq;obtain⟨aa,am⟩:=a;subst hd
  have ab:Steps P (bp (gU fn tm (.code c::k.map qw)) [door P] (tp wl O)) (bp (gU fn aa (k'.map qw)) [door P] w')/\k'.all lG=t?:=by
   obtain⟨rfl,rfl⟩|⟨id,rfl,he⟩:=ah
   exact⟨U,hk⟩;exact⟨U _ (by rw[sf,he];rfl),exitTo_plain hk he⟩
  obtain⟨⟨n,ab⟩,ai⟩:=ab;exact⟨n,⟨gU fn aa _,[door P],w'⟩,ab,⟨w'.tape,q?,aa,k',ai,q?,hW⟩,i!⟩;exact jQ.tape (τ:=O) (jQ.Uv h1 hf hc h2 h3)
 intro m Pd ρ gs w sl t fr' cs' ad aj ak ae h0;obtain⟨al,l',e,ht,af⟩:=ae.head;cases e;exact hS m Pd ρ gs w sl t _ _ cs' ad aj ak af (ed.one (fr:=gU fn tm _) (fr':=gU fn al _) ⟨q?,ht,.cons (.code c (by rw[ad.U0];exact ag)) (Pz hk),.nil,.run,.none⟩ q? (.inl ⟨q?,ve hf af⟩) q?) h0
end
end
section
open Go.RowKit
variable {a:Act} {listed:Array Bool} {P1 P2 ob:ByteArray} {l:List dD} {ch:List Wd} {f fuel i k:Nat} {oi:Oper} {p:Wd} {w wr:w?} {C:w?->Prop}
def wQ(x:Wd)(h:l? x<=1048576):∃P:ByteArray,(P.1.1=dI x/\P.size<=1048577)/\∀w,bo prog 149 #[s? ⟨a? x⟩] w λe w'=>e=e? (s? P)/\eJ w w':=by refine⟨⟨(dI x).toArray⟩,⟨q?,?_⟩,λw=>Cy ⟨a? x⟩ w ?_⟩;show(dI x).toArray.size<=_;simp[dI];omega;show x.toArray.size<=_;simp;omega
def CU(n)(O : -9223372036854775808<=n)(U:n<=9223372036854775807):∃P:ByteArray,(P.1.1=gh n/\P.size=3)/\∀w,bo prog 202 #[n? i? n] w λe w'=>e=e? (s? P)/\eJ w w':=
 ⟨⟨(gh n).toArray⟩,⟨q?,q?⟩,λw=>Mi n w O U⟩
def wrap_u8(n):IntKind.u8.wrap n=n % 256:=by simp[IntKind.wrap,IntKind.signed,IntKind.bits]
def qH{W g n}(h:W.cell? ⟨g,0,x?⟩=y? (n? .u8 (IntKind.u8.wrap n))):(convert 60 9 (.slice (y? ⟨g,0,x?⟩) 1 1)).run prog W=.ok (s? ⟨#[u8 n]⟩) W:=by
 rw[wrap_u8]at h;rw[run_convert_bytes_string W _ _ _ _ _ _ underlying60 underlying5 underlying9]
 have Y:=run_loadCells_list (P:=prog) W ⟨g,0,x?⟩ (eO [u8 n]) (λj u O=>by
  rw[kQ]at O;match j,O with
  |0,O=>simp at O;rw[<-O];exact h|j+1,O=>simp at O)
 have U:(loadCells ⟨g,0,x?⟩ 1).run prog W=.ok ((([u8 n].map λc=>(c.toNat:Int)).map (Value.int .u8)).toArray) W:=by
  have e:eO [u8 n]=([u8 n].map λc=>(c.toNat:Int)).map (Value.int .u8):=by simp[eO]
  rw[<-e];exact Y
 rw[run_bytesToString W _ _ _ _ U,A5];simp
def za(ch:List Wd):Array v?:=(dy ch).toArray
def QX:za (List.replicate 256 [])=zeroCells255:=by kernel_rfl
def iS(w wr:w?)(ch:List Wd):Prop:=wr.1[w.1.size]?=y? (c? (za ch) 255 (0,0))
def xU(h)(hb:iW (dC l[k]) p=f?):lr (l.take (k+1)) p=lr (l.take k) p/\fT (l.take (k+1)) p=fT (l.take k) p/\ep l p (k+1)=ep l p k:=by
 have O:(dC l[k]==p)=f?:=by rw[beq_eq_false_iff_ne];intro e;have:iW (dC l[k]) p=t?:=(fh _ _).2 (by rw[e];exact aV _);rw[hb]at this;cases this
 unfold lr fT ep;rw[aM h,aL,aL,aN];refine⟨?_,?_,?_⟩;simp[hb];simp[O];show rT l p _ l[k]=_;unfold rT;rw[if_neg (by rw[hb];simp)]
def r7(h)(hb:dC l[k]=p):lr (l.take (k+1)) p=lr (l.take k) p++[l[k]]/\fT (l.take (k+1)) p=fT (l.take k) p++[l[k]]/\ep l p (k+1)=ep l p k:=by have O:iW (dC l[k]) p=t?:=(fh _ _).2 (by rw[hb];exact aV _);have U:(dC l[k]==p)=t?:=beq_iff_eq.2 hb;unfold lr fT ep;rw[aM h,aL,aL,aN];refine⟨?_,?_,?_⟩;simp[O];simp[U];show rT l p _ l[k]=_;unfold rT;rw[if_neg (by rw[hb];simp)]
def pL(h)(hb:iW (dC l[k]) p=t?)(U:dC l[k]≠p):lr (l.take (k+1)) p=lr (l.take k) p++[l[k]]/\fT (l.take (k+1)) p=fT (l.take k) p/\
  ep l p (k+1)=(ep l p k).set ((dC l[k]).getD p.length 0).toNat ((dC l[k]).take (xI l (dC l[k]) (l? p+1))):=by
 have O:(dC l[k]==p)=f?:=by rw[beq_eq_false_iff_ne];exact U
 unfold lr fT ep;rw[aM h,aL,aL,aN];refine⟨?_,?_,?_⟩;simp[hb];simp[O];show rT l p _ l[k]=_;unfold rT;rw[if_pos ⟨hb,U⟩]
def P'(h:∀e∈l,mH e)(O:ob.1.1=(fT (l.take k) p).flatMap kC):ob.size<=k*2097160:=by
 have Y:=Ga (fT (l.take k) p) (λe U=>h e (List.mem_of_mem_take (aQ.1 U).1))
 have W:(fT (l.take k) p).length<=k:=by have:=List.length_filter_le (λe=>dC e==p) (l.take k);unfold fT;simp at this⊢;omega
 have h3:=congrArg List.length O;have h4:l? ob.1.1=ob.size:=i!;have:=b1 2097160 W;omega
def N1(l)(e):fI (l++[e])=if fI l<e.dn then e.dn else fI l:=by unfold fI;rw[aN];rfl
def iS.ext{w1 y}(h:iS w w1 ch)(O:eJ w1 y):iS w y ch:=by unfold iS at *;rw[b' O _ (aE.1 h).1];exact h
def OQ{U:ByteArray}{m e}(h:ob.1.1=m.flatMap kC)(O:P1.1.1=dI e.name/\P2.1.1=dI e.text/\U.1.1=gh e.dn) :
  (ob++P1++P2++U++⟨#[u8 e.dE]⟩).1.1=(m++[e]).flatMap kC:=by
 simp only[ByteArray.data_append,aI,h,O.1,O.2.1,O.2.2,aS,List.flatMap_cons,List.flatMap_nil,List.append_nil,kC,aU]
def OG(l)(s)(n):n<=xI l s n:=by unfold xI;omega
def Uk(l)(p):∀k,k<=l? l->∀q∈ep l p k,q≠[]->∃e∈l,q <+: dC e/\l? p<l? q:=by
 intro k;induction k with
 |zero=>intro _ q U O;simp only[ep,List.take_zero,List.foldl_nil,List.mem_replicate]at U;exact absurd U.2 O|succ k Y=>
  intro hk q U O;have W:k<l? l:=o!;by_cases hb:iW (dC l[k]) p=t?;by_cases hn:dC l[k]=p;rw[(r7 W hn).2.2]at U;exact Y o! q U O;rw[(pL W hb hn).2.2]at U;obtain h|h:=List.mem_or_eq_of_mem_set U
  exact Y o! q h O;refine⟨l[k],List.getElem_mem W,by rw[h];exact List.take_prefix _ _,?_⟩;have h1:=nJ ((fh _ _).1 hb) hn;have h2:=OG l (dC l[k]) (l? p+1);rw[h,List.length_take];omega;rw[(xU W (u! hb)).2.2]at U;exact Y o! q U O
def tD(l)(p)(k):(ep l p k).length=256:=by
 unfold ep;generalize l.take k=m
 have:∀(m:List dD)(ch:List Wd),l? ch=256->(m.foldl (rT l p) ch).length=256:=by
  intro m;induction m with
  |nil=>intro ch h;exact h|cons e m O=>intro ch h;rw[aX];refine O _ ?_;unfold rT;split;rw[List.length_set];exact h;exact h
 exact this m _ List.length_replicate
def jM(l:List dD)(p:Wd)(k:Nat):List Wd:=((ep l p l.length).take k).filter λq=>!q.isEmpty
def I5(l)(p):jM l p 256=mG l p:=by unfold jM mG;rw[List.take_of_length_le (by rw[tD];omega)]
def FT(l)(p)(k)(h):jM l p (k+1)=jM l p k++(if(ep l p l.length)[k].isEmpty=t? then []else [(ep l p l.length)[k]]):=by unfold jM;rw[aM h,aL,List.filter_cons,List.filter_nil];congr 1;cases(ep l p l.length)[k].isEmpty<;>simp
def IB(l)(p)(k)(g:Wd->Wd):((jM l p k).flatMap g).length<=((mG l p).flatMap g).length:=by
 unfold jM mG
 have e:(ep l p l.length).filter (λq=>!q.isEmpty)=((ep l p l.length).take k).filter (λq=>!q.isEmpty)++((ep l p l.length).drop k).filter (λq=>!q.isEmpty):=by rw[<-aL,List.take_append_drop]
 rw[e,aS,aT];omega
def KC(h:iS w wr ch)(k)(hk):wr.cell? ⟨w.1.size,k,x?⟩=y? (s? ⟨ch[k].toArray⟩):=by unfold iS at h;rw[dq h];simp[za,dy,hk]
def iS.set(h:iS w wr ch)(k)(q):iS w (wr.setCell ⟨w.1.size,k,x?⟩ (s? q)) (ch.set k q.1.1):=by unfold iS at *;rw[heap_set h];congr 2;unfold za;apply aK.1;rw[Array.toList_setIfInBounds];simp[dy,List.map_set]
def SD{a bel}(O:P1.1.1=dI (p.drop a.length))(U:P2.1.1=gh (fI (lr l p)))(W:ob.1.1=(fT l p).flatMap kC)(hb:bel.1.1=(mG l p).flatMap λq=>jO f l q p) :
  P1++P2++⟨#[u8 (fT l p).length]⟩++ob++⟨#[u8 (mG l p).length]⟩++bel=⟨(jO (f+1) l p a).toArray⟩:=by
 apply ByteArray.ext;apply aK.1;simp only[ByteArray.data_append,aI,O,U,W,hb,jO,aU,List.cons_append,List.nil_append]
def Nv(l:List dD)(h:∀e∈l,e.dn<=9223372036854775807):fI l<=9223372036854775807:=by
 unfold fI
 have:∀(l:List dD)(g:Int),(∀e∈l,e.dn<=9223372036854775807)->g<=9223372036854775807->l.foldl (λg e=>if g<e.dn then e.dn else g) g<=9223372036854775807:=by
  intro l;induction l with
  |nil=>intro g _ O;exact O|cons e l U=>intro g h O;rw[aX];refine U _ (λx W=>h x (by simp[W])) ?_;split;exact h e i!;exact O
 exact this l 0 h o!
def J9(U:∀e∈l,mH e)(O:l? l<=1048576)(W:f<=2097152)(p a:Wd)(Y:l? p<=1073741824):(dI (p.drop a.length)).length+3+1+((fT l p).flatMap kC).length+1+((mG l p).flatMap λq=>jO f l q p).length<=7000000000000000000:=by have h:=AP (f+1) l p a U;rw[jO]at h;simp only[aT,List.length_cons]at h;have h3:(gh (fI (lr l p))).length=3:=rfl;have h4:(f+1)*(l? l*3145743)<=2097153*(1048576*3145743):=Nat.mul_le_mul o! (b1 _ O);omega
section
variable {P:P?} {ops:Array Oper} {md:Region.Mode} {Q:Exit->Act->w?->Prop}
def Df{K:(w?->Prop)->Act->Prop}(v)
  (h:∀g,K (λy=>C y/\y.cell? ⟨g,0,x?⟩=y? v) (a.put oi.dst (.slice (y? ⟨g,0,x?⟩) 1 1))) (W:ops[i]?=y? oi:=by rfl) (hC:fW eJ C:=by first|exact fC _|exact(fC _).and (eu _ _))
  (Y:a4 oi (bc ops a.tmps)=t?:=by rfl) (O:∀y,C y->fL P oi a y (λu U=>eJ y U/\u=.slice (y? ⟨y.1.size,0,x?⟩) 1 1/\U.cell? ⟨y.1.size,0,x?⟩=y? v):=by intro y O;unfold fL;go_simp;exact⟨eJ.alloc _ _,q?,by rw[World.cell?_alloc_at _ _ _ _ rfl];rfl⟩):Ht eJ P ops i C K a:=
 Dx (λg=>.slice (y? ⟨g,0,x?⟩) 1 1) (λg y=>y.cell? ⟨g,0,x?⟩=y? v) W hC (λ_=>eu _ _) Y O h
def I6(v)
  (h:∀g,WX eJ P md ops Q fuel (listed.setIfInBounds i t?) (λy=>C y/\y.cell? ⟨g,0,x?⟩=y? v) (a.put oi.dst (.slice (y? ⟨g,0,x?⟩) 1 1))) (W:a5 md ops listed=[i]:=by kernel_rfl) (Y:ops[i]?=y? oi:=by rfl)
  (hC:fW eJ C:=by first|exact fC _|exact(fC _).and (eu _ _)) (hw:a4 oi (bc ops a.tmps)=t?:=by rfl) (O:∀y,C y->fL P oi a y (λu U=>eJ y U/\u=.slice (y? ⟨y.1.size,0,x?⟩) 1 1/\U.cell? ⟨y.1.size,0,x?⟩=y? v):=by intro y O;unfold fL;go_simp;exact⟨eJ.alloc _ _,q?,by rw[World.cell?_alloc_at _ _ _ _ rfl];rfl⟩):WX eJ P md ops Q (fuel+1) listed C a:=
 Db W i! λj hj=>by
  obtain rfl:j=i:=by simpa using hj
  exact Df v h Y hC hw O
def jh(i)(v)(O:∀y,C y->fL P oi a y (λu U=>eJ y U/\u=v))
  (h:WX eJ P md ops Q fuel (listed.setIfInBounds i t?) C (a.put oi.dst v)) (W:ops[i]?=y? oi:=by rfl)
  (Y:a7 ops=t?:=by kernel_rfl) (hf:a9 md ops listed i=t?:=by kernel_rfl) (hr:(a5 md ops listed).contains i=t?:=by kernel_rfl) (hC:fW eJ C:=by first|exact(fC _).and (eu _ _)|exact((fC _).and (eu _ _)).and (eu _ _))
  (hw:a4 oi (bc ops a.tmps)=t?:=by rfl):WX eJ P md ops Q (fuel+1) listed C a:=dx i v O h W Y hf hr hC hw
end
def Ad{P w o a B}(s x)(t)
  (ho:o.op=.call {callee:=.builtin .append,args:=#[s,x],argTypes:=#[t,t]})
  (base) (e) (i) (z) (bytes) (ht:P.underlying t=y? (.slice e)) (hi:P.info? e=y? i) (hz:i.zero=y? z)
  (U:i.size=1) (ab:i.bytes=bytes) (ac:z.cells.size=1)
  (v) (n) (xs) (hs:a.eval s=v) (aa:w.ownsRow base e 1 v n xs)
  (y) (news) (hx:a.eval x=y) (hy:Rd w y news) (h1:∀u∈news,u.oneCell'=t?)
  (O:(n+l? news)*bytes<=140737488355328) (ad:n+l? news<=maxLen) (W:base<=w.1.size)
  (h:∀Y w',w'.ownsRow base e 1 Y (n+l? news) (xs++news)->w.grownBy w' v.ownBlock->(Y.ownBlock=v.ownBlock\/Y.ownBlock=y? w.1.size)->B Y w'):fL P o a w B:=by
 obtain⟨Y,w',hr,h2,h3,h4⟩:=nK (P:=P) w base t o.type e i z bytes ht hi hz U ab ac v n xs aa y news hy h1 O ad W;unfold fL bd;simp only[ho,resolve,invoke,builtin,Sem.run_bind,Sem.run_pure,Result.andThen_ok,List.map_toArray,aY,List.map_nil,hs,hx,hr];exact h Y w' h2 h3 h4
def S7{P ops i}{C:w?->Prop}{a}{K:(w?->Prop)->Act->Prop}{X:Type}(Y:ops[i]?=y? oi)(hw:a4 oi (bc ops a.tmps)=t?)(O:X->w?->Prop)(U:X->v?)(hs:∀x,fW eJ (O x))(ht:∀x,im (O x))(hc:∀x y,O x y->C y)
  (hy:∀y,C y->fL P oi a y (λv W=>eJ y W/\∃x,v=U x/\O x W)) (h:∀x,K (O x) (a.put oi.dst (U x))):um P ops i C K a:=by
 unfold um;simp only[Y,hw,if_true];exact⟨X,O,U,hs,ht,hc,hy,h⟩
end
