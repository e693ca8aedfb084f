import Derived.Test.YtocbogeoffeolaaGreatDoorFouAD
import Derived.Test.YtocbogeoffeolaaGreatDoorFouAF
set_option linter.all false
set_option maxHeartbeats 8000000
set_option maxRecDepth 1000000
open Go renaming cell_later->a4,yielded->a5,rounds_succ->a6,execOp->a7,FuncId->a8,Calls->a9,wp_loop_rounds->aA,ready_mono->aB,TypeId->aC,stepG->aD,getD_set_ne->aE,wanted_put->aF,execOp_put->aG,step_lone_go->aH,exitTo->aI,bodyPost_ret->aJ,seen->aK,results->aL,lone->aM,callDeferred->aN
open Go.Region renaming wanted->aO,ready->aP,binds->aQ,noSelect_spec->aR,free_spec->aS,noSelect->aT,free->aU,schedule->aV
open Array renaming replicate->aW,getElem?_eq_none->aX,getElem?_eq_some_iff->aY,getD_eq_getD_getElem?->aZ,getElem?_append_left->ba,setIfInBounds_comm->bc,mem_toList_iff->bd,ext_getElem?->be,empty_append->bf
open Go.World renaming size_alloc->bg,cell?_alloc_at->bh,alloc_eq->bi,alloc->bj
open Go.stepG renaming apply->bk,exec->bl,oper->bm
open Bool renaming false_eq_true->bn,and_eq_true->bo,true_or->bp
open List renaming not_mem_nil->bq,mem_cons->br,all_cons->bs,all_eq_true->bt,mem_filter->bu,mem_map->bv,range->bw
open Go.Region.linearise renaming go->bx
open Nat renaming le_refl->bz,lt_or_ge->b3,zero_le->b4
open Go.RowKit.Below renaming refl->b5,heap_alloc->b6,trans->b7,size->b8
open Go.Frame renaming enter->b9,finish_at->b',finish->bA,oper?->bB,eval->bC
open Go.GStep renaming after->bD
open Option renaming getD_some->bE,bind_some->bF,map_some->bG
open Go.Instr renaming loadAt->bH
open Go renaming undef->bI
namespace Go.Proofs.YtocbogeoffeolaaGreatDoor
open Go.Proofs.Tryz
section
open Go.RowKit
variable {K:(World->Prop)->Act->Prop} {a:Act} {listed:Array Bool} {fuel i id:Nat} {o oi:Oper} {v:Value} {b c w:World} {C:World->Prop}
def eV(y O:World):Prop:=Below y.heap.size y O
theorem eV.refl(y:World):eV y y:=b5 ..
theorem eV.trans{a:World}(h:eV a b)(y:eV b c):eV a c:=b7 h (Below.mono y (b8 h))
theorem eV.alloc(y:World)(o:Obj):eV y (y.alloc o):=(b5 ..).alloc (bz _) o
def D.eV(y O:World):Prop:=Below y.heap.size y O/\y.drawn<=O.drawn
theorem D.eV.refl(y:World):D.eV y y:=⟨b5 ..,bz _⟩
theorem D.eV.trans{a:World}(h:D.eV a b)(y:D.eV b c):D.eV a c:=⟨b7 h.1 (Below.mono y.1 (b8 h.1)),Nat.le_trans h.2 y.2⟩
theorem D.eV.alloc(y:World)(o:Obj):D.eV y (y.alloc o):=⟨(b5 ..).alloc (bz _) o,bz _⟩
def gH(R:World->World->Prop)(C:World->Prop):Prop:=∀y O,C y->R y O->C O
theorem kp(w:World):gH eV (eV w):=λ_ _ h y=>h.trans y
theorem D.kp(w:World):gH D.eV (D.eV w):=λ_ _ h y=>h.trans y
theorem gH.and{R:World->World->Prop}{D:World->Prop}(h:gH R C)(Y:gH R D):gH R (λy=>C y/\D y):=λy O U W=>⟨h y O U.1 W,Y y O U.2 W⟩
section
variable {R:World->World->Prop} {P:Program} {ops:Array Oper} {md:Region.Mode} {Q:Exit->Act->World->Prop}
def iK(P:Program)(w:World)(B:Value->World->Prop):Result Go.Next->Prop
 |.ok (.value u) w'=>B u w'|.ok .skip w'=>B bI w'|.ok (.enter f args) w'=>w'=w/\a9 P f args w (λe y=>∃v,e=.returned v/\B v y)|_=>False
def gm(P:Program)(o:Oper)(a:Act)(w:World)(B:Value->World->Prop):Prop:=iK P w B ((a7 a.eval o).run P w)
theorem iK.mono{B y:Value->World->Prop}(h:∀v w,B v w->y v w):∀{r:Result Go.Next},iK P w B r->iK P w y r:=by
 intro r hh
 cases r with
 |ok n w'=>
  cases n<;>simp only[iK]at hh⊢
  case value u=>exact h _ _ hh
  case skip=>exact h _ _ hh
  case enter f args=>exact⟨hh.1,hh.2.mono λe w'' ⟨v,he,hb⟩=>⟨v,he,h _ _ hb⟩⟩
 |halt x w'=>simp only[iK]at hh
def K4(R:World->World->Prop)(P:Program)(ops:Array Oper)(i:Nat)(C:World->Prop)(K:(World->Prop)->Act->Prop)(a:Act):Prop:=
 match ops[i]? with
 |none=>K C a|some o=>if aO o (a5 ops a.tmps)=true then
   ∃(X:Type)(O:X->World->Prop)(U:X->Value),(∀x,gH R (O x))/\(∀x y,O x y->C y)/\(∀y,C y->gm P o a y (λv W=>R y W/\∃x,v=U x/\O x W))/\∀x,K (O x) (a.put o.dst (U x))
  else K C (a.put o.dst bI)
theorem PY{K':(World->Prop)->Act->Prop}(h:∀C a,K C a->K' C a)(y:K4 R P ops i C K a):K4 R P ops i C K' a:=by
 unfold K4 at *;split;rename_i O;simp only[O]at y;exact h _ _ y;rename_i o O;simp only[O]at y;split
 rename_i U;simp only[U,if_true]at y;obtain⟨X,W,Y,h1,h2,h3,h4⟩:=y;exact⟨X,W,Y,h1,h2,h3,λx=>h _ _ (h4 x)⟩;rename_i U;simp only[U]at y;exact h _ _ y
def WX(R:World->World->Prop)(P:Program)(md:Region.Mode)(ops:Array Oper)(Q:Exit->Act->World->Prop):Nat->Array Bool->(World->Prop)->Act->Prop
 |0,listed,C,a=>aP md ops listed=[]/\∀y,C y->Q .normal a y|fuel+1,listed,C,a=>
  (aP md ops listed=[]->∀y,C y->Q .normal a y)/\
  ∀i∈aP md ops listed,K4 R P ops i C (λO U=>WX R P md ops Q fuel (listed.setIfInBounds i true) O U) a
theorem Fi{K':Act->World->Prop}(hC:C w)(h:∀C a w,C w->K C a->K' a w)(hh:K4 R P ops i C K a):wpOp P ops Q i K' a w:=by
 unfold K4 at hh;unfold wpOp;split;rename_i O;simp only[O]at hh;exact h _ _ _ hC hh;rename_i o O;simp only[O]at hh;split
 .rename_i U;simp only[U,if_true]at hh;obtain⟨X,Cx,vx,_,_,Y,W⟩:=hh;have h5:=Y w hC;refine .inl ?_;unfold gm at h5;unfold Oper.wp;generalize (a7 _ o).run P w=r at *
  cases r with
  |ok n w'=>
   cases n<;>simp only[iK]at h5<;>simp only[Oper.upon]
   case value u=>
    obtain⟨_,x,rfl,y⟩:=h5;exact h _ _ _ y (W x)
   case skip=>
    obtain⟨_,x,e,y⟩:=h5;rw[e];exact h _ _ _ y (W x)
   case enter f args=>
    obtain⟨e1,hc⟩:=h5;rw[e1];refine hc.mono λe aa he=>?_;obtain⟨v,rfl,_,x,rfl,y⟩:=he;exact h _ _ _ y (W x)
  |halt x w'=>simp only[iK]at h5
 rename_i U;simp only[U]at hh;exact h _ _ _ hC hh
theorem vY:∀(fuel:Nat)(listed:Array Bool)(C:World->Prop)(a:Act)(w:World),C w->WX R P md ops Q fuel listed C a->wpAny P md ops Q fuel listed a w
 |0,_,_,_,w,y,h=>⟨h.1,h.2 w y⟩
 |fuel+1,_,_,_,w,y,h=>⟨λU=>h.1 U w y,λi hi=>Fi y (λW Y w' O h'=>vY fuel _ W Y w' O h') (h.2 i hi)⟩
def gh(R:World->World->Prop)(P:Program)(ops:Array Oper)(C:World->Prop)(o:Oper)(v:Value)(a:Act):Prop:=
 (aO o (a5 ops a.tmps)=true/\∀y,C y->gm P o a y (λu O=>R y O/\u=v))\/
 (aO o (a5 ops a.tmps)=false/\v=bI)
theorem gh.sub{O:World->Prop}(h:gh R P ops C o v a)(U:∀y,O y->C y):gh R P ops O o v a:=by
 rcases h with⟨W,Y⟩|h
 exact .inl ⟨W,λy hy=>Y y (U y hy)⟩;exact .inr h
theorem gh.of_same{y:Act}(O:gh R P ops C o v a)(U:a7 y.eval o=a7 a.eval o)
  (W:aO o (a5 ops y.tmps)=aO o (a5 ops a.tmps)):gh R P ops C o v y:=by
 unfold gh gm at *;rw[U,W];exact O
theorem gh.Va(hi:ops[i]?=some o)(hC:gH R C)(O:gh R P ops C o v a)(h:K C (a.put o.dst v)):K4 R P ops i C K a:=by
 unfold K4;simp only[hi];rcases O with⟨U,Y⟩|⟨U,rfl⟩
 simp only[U,if_true];exact⟨Unit,λ_=>C,λ_=>v,λ_=>hC,λ_ _ h=>h,λy O=>(Y y O).mono λu y' ⟨W,h2⟩=>⟨W,(),h2,hC y y' O W⟩,λ_=>h⟩;simp only[U,bn,if_false];exact h
theorem Rt{j:Nat}{O:Oper}(hj:ops[j]?=some O)(W:oi.apart ops O=true)
  (Y:∀cs b,oi.op≠.select cs b) (aa:∀cs b,O.op≠.select cs b) {K:(World->Prop)->Act->Prop} {a:Act} (hC:gH R C)
  (U:gh R P ops C oi v a) (h:K4 R P ops j C K (a.put oi.dst v)) :
  K4 R P ops j C (λC' a'=>gH R C'/\gh R P ops C' oi v a'/\K C' (a'.put oi.dst v)) a:=by
 obtain⟨h1,h2,h3⟩:=Oper.apart_spec W
 have kQ:∀(C:World->Prop)(a:Act),gh R P ops C oi v a->∀u,gh R P ops C oi v _:=λC a U u=>
  U.of_same (aG oi Y a _ u h3) (aF oi a _ u h3)
 unfold K4 at *;simp only[hj]at *;rw[aF O a _ v h1]at h;split
 rename_i hw;simp only[hw,if_true]at h;obtain⟨X,Cx,vx,q1,q2,q3,q4⟩:=h;refine⟨X,Cx,vx,q1,q2,λy ab=>?_,λx=>⟨q1 x,kQ _ _ (U.sub (q2 x)) _,by rw[<-Act.put_comm a v _ h2];exact q4 x⟩⟩;have:=q3 y ab;unfold gm at *;rwa [aG O aa a _ v h1]at this;rename_i hw;simp only[hw]at h;exact⟨hC,kQ _ a U _,by rw[<-Act.put_comm a v bI h2];exact h⟩
theorem Gq(hi:ops[i]?=some oi)(W:∀(j:Nat)(o:Oper)cs b,ops[j]?=some o->o.op≠.select cs b) :
  ∀(fuel:Nat)(listed:Array Bool)(C:World->Prop)(a:Act),
   (∀j oj,ops[j]?=some oj->j≠i->listed.getD j true=false->(∀e∈oj.after,aQ md e=true->e.on≠i)->oi.apart ops oj=true)->
   i∈aP md ops listed->gH R C->gh R P ops C oi v a->
   WX R P md ops Q fuel (listed.setIfInBounds i true) C (a.put oi.dst v)->WX R P md ops Q (fuel+1) listed C a:=by
 intro fuel;induction fuel with
 |zero=>
  intro listed C a _ hr hC hy H;refine⟨λh=>(by rw[h]at hr;cases hr),λj hj=>?_⟩;by_cases y:j=i;subst y;exact hy.Va hi hC H;have:=aB hj y;rw[H.1]at this;cases this
 |succ fuel ih=>
  intro listed C a O hr hC hy H;refine⟨λh=>(by rw[h]at hr;cases hr),λj hj=>?_⟩;by_cases y:j=i;subst y;exact hy.Va hi hC H;have h1:=H.2 j (aB hj y);obtain⟨Y,oj,aa,fy⟩:=_root_.Go.mem_ready.1 hj
  have ab:∀e∈oj.after,aQ md e=true->e.on≠i:=λe he hb ae=>by
   have h1:=fy e he hb;have h0:=(_root_.Go.mem_ready.1 hr).1;rw[ae]at h1;rcases b3 i listed.size with h'|h'
   simp[h']at h0 h1;rw[h0]at h1;cases h1;simp[aX h']at h1
  have h2:=Rt aa (O j oj aa y Y ab) (λcs b=>W i oi cs b hi) (λcs b=>W j oj cs b aa) hC hy h1
  have U:∀k ok,ops[k]?=some ok->k≠i->(listed.setIfInBounds j true).getD k true=false->
    (∀e∈ok.after,aQ md e=true->e.on≠i)->oi.apart ops ok=true:=λk ok hk af ac ag=>by
   refine O k ok hk af ?_ ag;by_cases ad:j=k;subst ad;exact Y;rw[aE true ad]at ac;exact ac
  refine PY (λC' a' h3=>ih _ C' a' U (aB hr (Ne.symm y)) h3.1 h3.2.1 ?_) h2;rw[bc _ _ y];exact h3.2.2
theorem dG(i:Nat)(v:Value)(O:∀y,C y->gm P oi a y (λu U=>R y U/\u=v))
  (h:WX R P md ops Q fuel (listed.setIfInBounds i true) C (a.put oi.dst v)) (hi:ops[i]?=some oi:=by rfl)
  (W:aT ops=true:=by kernel_rfl) (Y:aU md ops listed i=true:=by kernel_rfl) (hr:(aP md ops listed).contains i=true:=by kernel_rfl) (hC:gH R C:=by first|exact kp _|exact D.kp _)
  (hw:aO oi (a5 ops a.tmps)=true:=by rfl):WX R P md ops Q (fuel+1) listed C a:=
 Gq hi (aR W) fuel listed C a (aS hi Y) (by simpa using hr) hC (.inl ⟨hw,O⟩) h
theorem SL{rs:List Nat}(O:aP md ops listed=rs)(y:rs≠[])
  (h:∀i∈rs,K4 R P ops i C (λU W=>WX R P md ops Q fuel (listed.setIfInBounds i true) U W) a):WX R P md ops Q (fuel+1) listed C a:=
 ⟨λY=>absurd (O▸Y) y,O▸h⟩
theorem xC(O:aP md ops listed=[])(h:∀y,C y->Q .normal a y):∀fuel,WX R P md ops Q fuel listed C a
 |0=>⟨O,h⟩
 |_+1=>⟨λ_=>h,by rw[O];simp⟩
theorem Qt(W:Nat->Value)(D:Nat->World->Prop)(hi:ops[i]?=some oi)(hC:gH R C)(hD:∀g,gH R (D g))
  (hw:aO oi (a5 ops a.tmps)=true) (hy:∀y,C y->gm P oi a y (λv U=>R y U/\v=W y.heap.size/\D y.heap.size U))
  (h:∀g,K (λy=>C y/\D g y) (a.put oi.dst (W g))):K4 R P ops i C K a:=by
 unfold K4;simp only[hi,hw,if_true];exact⟨Nat,λg y=>C y/\D g y,W,λg=>hC.and (hD g),λ_ _ h=>h.1,λy O=>(hy y O).mono λv U ⟨Y,h2,h3⟩=>⟨Y,y.heap.size,h2,hC y U O Y,h3⟩,h⟩
theorem vH(y:R w {w with drawn:=w.drawn+1})(hm:P.follows .mixedOrders=true)
  (h:WX R P .any ops Q ops.size (aW ops.size false) (R w) a):(Code.region id ops true).wp P Q a w:=
 wp_region_any hm (vY _ _ _ _ _ y h)
theorem lY(hm:P.follows .mixedOrders=true)(h:WX eV P .any ops Q ops.size (aW ops.size false) (eV w) a):(Code.region id ops true).wp P Q a w:=
 vH ⟨rfl,rfl,rfl,bz _,λ_ _=>rfl⟩ hm h
theorem D.lY(hm:P.follows .mixedOrders=true)(h:WX D.eV P .any ops Q ops.size (aW ops.size false) (D.eV w) a):(Code.region id ops true).wp P Q a w:=
 vH ⟨⟨rfl,rfl,rfl,bz _,λ_ _=>rfl⟩,Nat.le_succ _⟩ hm h
theorem EZ(U:∀y O,R y O->Below y.heap.size y O)(a:Addr)(v:Value):gH R (λy=>y.cell? a=some v):=λy O h W=>by
 have hb:=Below.block (U _ _ W) _ (World.block_lt_of_cell? y a h);show O.cell? a=some v;rw[World.cell?_of_block hb];exact h
theorem gp(a:Addr)(v:Value):gH eV (λy=>y.cell? a=some v):=EZ (λ_ _ h=>h) a v
theorem D.gp(a:Addr)(v:Value):gH D.eV (λy=>y.cell? a=some v):=EZ (λ_ _ h=>h.1) a v
end
end
section
open Go.RowKit
variable {K:(World->Prop)->Act->Prop} {a:Act} {listed:Array Bool} {i:Nat} {oi:Oper} {v:Value} {C:World->Prop}
def lZ(C:World->Prop):Prop:=∀y τ,C y->C (tp y τ)
def kV(w:World):World->Prop:=λy=>∃τ,eV (tp w τ) y
theorem kV.SS(w:World):gH eV (kV w):=λ_ _ ⟨τ,h⟩ y=>⟨τ,h.trans y⟩
theorem S7{w y:World}(h:eV w y)(τ:Nat->Question->Nat):eV (tp w τ) (tp y τ):=by
 obtain⟨O,h2,U,W,Y⟩:=h;exact⟨O,rfl,U,W,Y⟩
theorem kV.free(w:World):lZ (kV w):=λy τ ⟨_,h⟩=>⟨τ,S7 h τ⟩
theorem kV.at(w:World)(d:Nat):kV w (w.at d):=⟨w.tape,⟨rfl,rfl,rfl,bz _,λ_ _=>rfl⟩⟩
section
variable {P:Program} {ops:Array Oper} {md:Region.Mode} {last:Nat} {tl:List Nat->Prop} {Sd:Act->World->Prop}
def A0(P:Program)(ops:Array Oper)(i:Nat)(C:World->Prop)(K:(World->Prop)->Act->Prop)(a:Act):Prop:=
 match ops[i]? with
 |none=>False|some o=>if aO o (a5 ops a.tmps)=true then
   ∃(X:Type)(O:X->World->Prop)(U:X->Value),(∀x,gH eV (O x))/\(∀x,lZ (O x))/\(∀x y,O x y->C y)/\(∀y,C y->gm P o a y (λv W=>eV y W/\∃x,v=U x/\O x W))/\∀x,K (O x) (a.put o.dst (U x))
  else K C (a.put o.dst bI)
theorem MC{K':(World->Prop)->Act->Prop}(h:∀C a,K C a->K' C a)(y:A0 P ops i C K a):A0 P ops i C K' a:=by
 unfold A0 at *;split;rename_i O;simp only[O]at y;rename_i o O;simp only[O]at y;split
 rename_i U;simp only[U,if_true]at y;obtain⟨X,W,Y,h1,h2,h3,h4,h5⟩:=y;exact⟨X,W,Y,h1,h2,h3,h4,λx=>h _ _ (h5 x)⟩;rename_i U;simp only[U]at y;exact h _ _ y
def WS(P:Program)(md:Region.Mode)(ops:Array Oper)(last:Nat)(tl:List Nat->Prop)(Sd:Act->World->Prop):Nat->Array Bool->(World->Prop)->Act->Prop
 |0,_,_,_=>False|fuel+1,listed,C,a=>aP md ops listed≠[]/\∀i∈aP md ops listed,if i=last then(∀t,tl (bx md ops fuel t (listed.setIfInBounds last true) []))/\∀y,C y->Sd a y else A0 P ops i C (λO U=>WS P md ops last tl Sd fuel (listed.setIfInBounds i true) O U) a
structure IZ(P:Program)(ops:Array Oper)(last:Nat)(W:List Nat->Act->World->Prop):Prop where
 op:∀(i:Nat)rest a w o,i≠last->ops[i]?=some o->aO o (a5 ops a.tmps)=true->(∀τ,gm P o a (tp w τ) λv y=>eV (tp w τ) y/\W rest (a.put o.dst v) y)->W (i::rest) a w
 pass:∀(i:Nat)rest a w o,i≠last->ops[i]?=some o->aO o (a5 ops a.tmps)=false->W rest (a.put o.dst bI) w->W (i::rest) a w
theorem WS.sound{W:List Nat->Act->World->Prop}(U:IZ P ops last W)(O:∀a y l,tl l->Sd a y->W (last::l) a y):∀(fuel t:Nat)(listed:Array Bool)(C:World->Prop)(a:Act)(w:World),lZ C->C w->WS P md ops last tl Sd fuel listed C a->W (bx md ops fuel t listed []) a w
 |0,_,_,_,_,_,_,_,h=>h.elim
 |fuel+1,t,listed,C,a,w,hT,hC,h=>by
  obtain⟨h0,h1⟩:=h
  change W (match (aP md ops listed)[t % (aP md ops listed).length]? with
   |some i=>bx md ops fuel ..|none=>[].reverse) a w
  cases hi:(aP md ops listed)[t % (aP md ops listed).length]? with
  |none=>
   exfalso
   cases hr:aP md ops listed with
   |nil=>exact h0 hr|cons x xs=>
    rw[hr]at hi;have aa:t % (x::xs).length<(x::xs).length:=Nat.mod_lt _ (by simp);simp at hi;simp at aa;omega
  |some i=>
   simp only[];rw[linearise_go_acc];have h2:=h1 i (List.mem_of_getElem? hi);by_cases e:i=last;subst e;simp only[if_true]at h2;exact O a w _ (h2.1 _) (h2.2 w hC);simp only[e,if_false]at h2;unfold A0 at h2
   cases Y:ops[i]? with
   |none=>simp only[Y]at h2|some o=>
    simp only[Y]at h2;by_cases hw:aO o (a5 ops a.tmps)=true;simp only[hw,if_true]at h2;obtain⟨X,Cx,vx,q1,q2,q3,q4,q5⟩:=h2;refine U.op i _ a w o e Y hw λτ=>(q4 _ (hT w τ hC)).mono λv y ⟨he,x,ev,hx⟩=>⟨he,?_⟩;rw[ev];exact WS.sound U O fuel _ _ _ _ y (q2 x) hx (q5 x);simp only[hw,bn,if_false]at h2;exact U.pass i _ a w o e Y (by simpa using hw) (WS.sound U O fuel _ _ C _ w hT hC h2)
inductive Tx(md:Region.Mode)(ops:Array Oper)(last:Nat):Nat->Prop
 |base {e o}:ops[last]?=some o->e∈o.after->aQ md e=true->Tx md ops last e.on|step {j:Nat} {e o}:Tx md ops last j->ops[j]?=some o->e∈o.after->aQ md e=true->Tx md ops last e.on
def Down(md:Region.Mode)(ops:Array Oper)(listed:Array Bool):Prop:=∀(j:Nat)o,ops[j]?=some o->listed.getD j false=true->∀e∈o.after,aQ md e=true->listed.getD e.on false=true
theorem Down.Vh(h:Down md ops listed)(W:last∈aP md ops listed)(hi:Tx md ops last i):listed.getD i false=true:=by
 induction hi with
 |base O U hb=>
  obtain⟨_,o',y,fy⟩:=_root_.Go.mem_ready.1 W;rw[O]at y;cases y;exact fy _ U hb
 |step _ O U hb Y=>exact h _ _ O Y _ U hb
theorem Down.set(h:Down md ops listed)(hr:i∈aP md ops listed):Down md ops (listed.setIfInBounds i true):=by
 have up:∀k,listed.getD k false=true->(listed.setIfInBounds i true).getD k false=true:=by
  intro k U;by_cases e:i=k;subst e
  have:i<listed.size:=by
   apply Classical.byContradiction;intro hn;simp[aX (Nat.le_of_not_lt hn)]at U
  simp[this];rw[aE false e];exact U
 intro j o W Y e he hb;by_cases y:i=j;subst y;obtain⟨_,o',O,fy⟩:=_root_.Go.mem_ready.1 hr;rw[W]at O;cases O;exact up _ (fy e he hb);rw[aE false y]at Y;exact up _ (h j o W Y e he hb)
theorem PQ{j:Nat}{O:Oper}(hj:ops[j]?=some O)(Y:oi.apart ops O=true)
  (aa:∀cs b,oi.op≠.select cs b) (ab:∀cs b,O.op≠.select cs b) {K:(World->Prop)->Act->Prop} {a:Act} (hC:gH eV C) (hT:lZ C)
  (U:gh eV P ops C oi v a) (h:A0 P ops j C K (a.put oi.dst v)) :
  A0 P ops j C (λW a'=>(gH eV W/\lZ W)/\gh eV P ops W oi v a'/\K W (a'.put oi.dst v)) a:=by
 obtain⟨h1,h2,h3⟩:=Oper.apart_spec Y
 have kQ:∀(C:World->Prop)(a:Act),gh eV P ops C oi v a->∀u,gh eV P ops C oi v _:=λC a U u=>
  U.of_same (aG oi aa a _ u h3) (aF oi a _ u h3)
 unfold A0 at *;simp only[hj]at *;rw[aF O a _ v h1]at h;split
 rename_i hw;simp only[hw,if_true]at h;obtain⟨X,Cx,vx,q1,qt,q2,q3,q4⟩:=h;refine⟨X,Cx,vx,q1,qt,q2,λy ac=>?_,λx=>⟨⟨q1 x,qt x⟩,kQ _ _ (U.sub (q2 x)) _,by rw[<-Act.put_comm a v _ h2];exact q4 x⟩⟩;have:=q3 y ac;unfold gm at *;rwa [aG O ab a _ v h1]at this;rename_i hw;simp only[hw]at h;exact⟨⟨hC,hT⟩,kQ _ a U _,by rw[<-Act.put_comm a v bI h2];exact h⟩
theorem gh.U'{o:Oper}(hi:ops[i]?=some o)(hC:gH eV C)(Y:lZ C)(O:gh eV P ops C o v a)(h:K C (a.put o.dst v)):A0 P ops i C K a:=by
 unfold A0;simp only[hi];rcases O with⟨U,hv⟩|⟨U,rfl⟩
 simp only[U,if_true];exact⟨Unit,λ_=>C,λ_=>v,λ_=>hC,λ_=>Y,λ_ _ h=>h,λy O=>(hv y O).mono λu y' ⟨W,h2⟩=>⟨W,(),h2,hC y y' O W⟩,λ_=>h⟩;simp only[U,bn,if_false];exact h
theorem Pw(hi:ops[i]?=some oi)(ad:Tx md ops last i)(ak:i≠last)(aa:∀(j:Nat)(o:Oper)cs b,ops[j]?=some o->o.op≠.select cs b) :
  ∀(fuel:Nat)(listed:Array Bool)(C:World->Prop)(a:Act),Down md ops listed->
   (∀j oj,ops[j]?=some oj->j≠i->listed.getD j true=false->(∀e∈oj.after,aQ md e=true->e.on≠i)->oi.apart ops oj=true\/j=last)->
   i∈aP md ops listed->gH eV C->lZ C->gh eV P ops C oi v a->
   WS P md ops last tl Sd fuel (listed.setIfInBounds i true) C (a.put oi.dst v)->WS P md ops last tl Sd (fuel+1) listed C a:=by
 intro fuel;induction fuel with
 |zero=>intro listed C a _ _ _ _ _ _ H;exact H.elim|succ fuel ih=>
  intro listed C a hD O hr hC hT hy H;refine⟨λh=>(by rw[h]at hr;cases hr),λj hj=>?_⟩;have y:=(_root_.Go.mem_ready.1 hr).1;by_cases W:j=last;subst W;have:=hD.Vh hj ad;rcases b3 i listed.size with h'|h'
  simp[h']at this y;rw[y]at this;cases this;simp[aX h']at this;simp only[W,if_false];by_cases U:j=i;subst U;exact hy.U' hi hC hT H;have h1:=H.2 j (aB hj U);simp only[W,if_false]at h1;obtain⟨ab,oj,ac,fy⟩:=_root_.Go.mem_ready.1 hj
  have ae:∀e∈oj.after,aQ md e=true->e.on≠i:=λe he hb ah=>by
   have h1:=fy e he hb;rw[ah]at h1;rcases b3 i listed.size with h'|h'
   simp[h']at y h1;rw[y]at h1;cases h1;simp[aX h']at h1
  have h2:=PQ ac ((O j oj ac U ab ae).resolve_right W) (λcs b=>aa i oi cs b hi) (λcs b=>aa j oj cs b ac) hC hT hy h1
  have Y:∀k ok,ops[k]?=some ok->k≠i->(listed.setIfInBounds j true).getD k true=false->
    (∀e∈ok.after,aQ md e=true->e.on≠i)->oi.apart ops ok=true\/k=last:=λk ok hk ai af aj=>by
   refine O k ok hk ai ?_ aj;by_cases ag:j=k;subst ag;exact ab;rw[aE true ag]at af;exact af
  refine MC (λC' a' h3=>ih _ C' a' (hD.set hj) Y (aB hr (Ne.symm U)) h3.1.1 h3.1.2 h3.2.1 ?_) h2;rw[bc _ _ U];exact h3.2.2
end
open Go.Conc
variable {fuel:Nat} {o:Oper}
section
variable {P:Program} {ops:Array Oper} {md:Region.Mode} {last:Nat} {tl:List Nat->Prop} {Sd:Act->World->Prop}
def uK(md:Region.Mode)(ops:Array Oper)(j:Nat):List Nat:=match ops[j]? with
 |some o=>(o.after.toList.filter λe=>aQ md e).map (·.on)|none=>[]
def Qn(md:Region.Mode)(ops:Array Oper)(last:Nat):Nat->List Nat
 |0=>uK md ops last|n+1=>Qn md ops last n++(Qn md ops last n).flatMap (uK md ops)
theorem Fh{j i:Nat}(h:i∈uK md ops j):∃o e,ops[j]?=some o/\e∈o.after/\aQ md e=true/\e.on=i:=by
 unfold uK at h
 cases y:ops[j]? with
 |none=>rw[y]at h;cases h
 |some o=>
  rw[y]at h;simp only[bv,bu,bd]at h;obtain⟨e,⟨O,U⟩,W⟩:=h;exact⟨o,e,rfl,O,U,W⟩
theorem Ih:∀(n:Nat){i:Nat},i∈Qn md ops last n->Tx md ops last i
 |0,i,h=>by
  obtain⟨o,e,y,O,U,rfl⟩:=Fh h
  exact .base y O U
 |n+1,i,h=>by
  rcases List.mem_append.1 h with h|h
  exact Ih n h;obtain⟨j,W,hi⟩:=List.mem_flatMap.1 h;obtain⟨o,e,y,O,U,rfl⟩:=Fh hi;exact .step (Ih n W) y O U
def NT(md:Region.Mode)(ops:Array Oper)(listed:Array Bool):Bool:=(bw ops.size).all λj=>!listed.getD j false || (uK md ops j).all λi=>listed.getD i false
theorem R7(h:NT md ops listed=true):Down md ops listed:=by
 intro j o y O e U hb;unfold NT at h;rw[bt]at h;have:=h j (by simpa using(aY.1 y).1);rw[O]at this;simp only[Bool.not_true,Bool.false_or,bt]at this;refine this _ ?_;unfold uK;rw[y];simp only[bv,bu,bd];exact⟨e,⟨U,hb⟩,rfl⟩
def RS(md:Region.Mode)(ops:Array Oper)(last:Nat)(listed:Array Bool)(i:Nat):Bool:=aT ops&&aU md ops listed i&&(aP md ops listed).contains i&&(Qn md ops last ops.size).contains i&&i != last&&NT md ops listed
theorem dC(i:Nat)(v:Value){oi:Oper}{a:Act}(O:∀y,C y->gm P oi a y (λu U=>eV y U/\u=v))
  (h:WS P md ops last tl Sd fuel (listed.setIfInBounds i true) C (a.put oi.dst v)) (hi:ops[i]?=some oi:=by rfl) (hb:RS md ops last listed i=true:=by kernel_rfl) (hC:gH eV C:=by exact kV.SS _) (W:lZ C:=by exact kV.free _)
  (Y:aO oi (a5 ops a.tmps)=true:=by rfl):WS P md ops last tl Sd (fuel+1) listed C a:=by
 simp only[RS,bo]at hb;obtain⟨⟨⟨⟨⟨h1,h2⟩,h3⟩,h4⟩,h5⟩,h6⟩:=hb;exact Pw hi (Ih _ (by simpa using h4)) (by simpa using h5) (aR h1) fuel listed C a (R7 h6) (λj oj a b c d=>.inl (aS hi h2 j oj a b c d)) (by simpa using h3) hC W (.inl ⟨Y,O⟩) h
theorem Cz(O:aP md ops listed=[]):∀(fuel t:Nat),bx md ops fuel t listed []=[]
 |0,_=>rfl
 |f+1,t=>by
  simp only[bx]
  split
  .rename_i q U
   have y:(aP md ops listed)[t % (aP md ops listed).length]?=some q:=U
   rw[O]at y;cases y
  rfl
theorem mP{a:Act}(U:aP md ops listed=[last])(W:∀t,tl (bx md ops fuel t (listed.setIfInBounds last true) []))(h:∀y,C y->Sd a y):WS P md ops last tl Sd (fuel+1) listed C a:=by
 refine⟨by rw[U];simp,λj O=>?_⟩;rw[U]at O;simp only[br,bq,or_false]at O;subst O;simp only[if_true];exact⟨W,h⟩
end
section
variable {P:Program} {ops:Array Oper} {Q:Exit->Act->World->Prop}
def mD(P:Program)(ops:Array Oper)(Q:Exit->Act->World->Prop)(l:List Nat)(a:Act)(w:World):Prop:=∀b k cs,∃e y w',Q e y w'/\Arrives P (aM (b.at a (.inRegion ops l::k)) cs w) b k cs e y w'
theorem jv{i:Nat}{rest:List Nat}{a:Act}{w:World}(ho:ops[i]?=some o)(hw:aO o (a5 ops a.tmps)=true)(hj:gm P o a w λv y=>mD P ops Q rest (a.put o.dst v) y):mD P ops Q (i::rest) a w:=by
  intro b k cs;have hg:=stepG_op (P:=P) (b:=b) (k:=k) (cs:=cs) (w:=w) (rest:=rest) ho hw
  have U:∀v,(b.at a (.inRegion ops (i::rest)::k)).finish v=b.at (a.put o.dst v) (.inRegion ops rest::k):=by
   intro v;rw[b',ho];rfl
  unfold gm at hj
  cases hr:(a7 _ o).run P w with
  |halt x w'=>rw[hr]at hj;exact hj.elim|ok n w'=>
   rw[hr]at hj;cases n<;>simp only[iK]at hj
   case value v=>
    obtain⟨e,a',W,hq,O⟩:=hj b k cs;refine⟨e,a',W,hq,.of_steps (.one (aH ?_)) O⟩;rw[hg,<-U];simp[bk,hr]
   case skip=>
    obtain⟨e,a',W,hq,O⟩:=hj b k cs;refine⟨e,a',W,hq,.of_steps (.one (aH ?_)) O⟩;rw[hg,<-U];simp[bk,hr]
   case enter f args=>
    obtain⟨rfl,hc⟩:=hj;obtain⟨e,w2,fr,⟨v,rfl,hR⟩,ab,_,Y⟩:=hc _;obtain⟨e,a',W,hq,O⟩:=hR b k cs
    have aa:step P _=.next (aM (b9 P f args .normal) (b.at a (.inRegion ops (i::rest)::k)::cs) w'):=
     aH (by rw[hg];simp[bk,hr,Frame.at])
    refine⟨e,a',W,hq,.of_steps (.head aa (Steps.trans ab (.one ?_))) O⟩;rw[<-U];exact step_leave_returned Y
theorem Hk{i:Nat}{rest:List Nat}{a:Act}{w:World}(O:ops[i]?=some o)(W:aO o (a5 ops a.tmps)=false)(h:mD P ops Q rest (a.put o.dst bI) w):mD P ops Q (i::rest) a w:=by
  intro b k cs;obtain⟨e,Y,w',hq,y⟩:=h b k cs;have U:=step_op_skip (P:=P) (b:=b) (a:=a) (k:=k) (cs:=cs) (w:=w) (ops:=ops) (i:=i) (rest:=rest) (by simp[O,W]);simp only[O,bF]at U;exact⟨e,Y,w',hq,.of_steps (.one U) y⟩
theorem GO{last:Nat}{τ₀:Nat->Question->Nat}:IZ P ops last λl a w=>w.tape=τ₀->mD P ops Q l a w where
 op i rest a w o _ ho hw hj ht:=jv ho hw ((show gm P o a w _ from hj w.tape).mono λ_ _ h=>h.2 (h.1.tape.trans ht))
 pass i rest a w o _ ho hw h ht:=Hk ho hw (h ht)
theorem xV{i:Nat}{a:Act}{w:World}{x y:Operand}{r cap s rc:Nat}{O:Array Value}{tm:Bool}{v:Value}(ho:ops[i]?=some o)(hg:o.guard=none)(aa:o.op=.send x y)(hd:o.dst=none)(hx:a.eval x=.chan (some r))(hy:a.eval y=v)(hc:w.heap[r]?=some (.chan cap O false s rc tm))(hb:O.size<cap)
  (h:Q .normal a {w with heap:=w.heap.setIfInBounds r (.chan cap (O.push v) false (s+1) rc tm)}):mD P ops Q [i] a w:=by
 intro b k cs;have hw:aO o (a5 ops a.tmps)=true:=by simp[aO,hg]
 have hg:=stepG_op (P:=P) (b:=b) (k:=k) (cs:=cs) (w:=w) (rest:=[]) ho hw
 have W:a7 a.eval o=pure (.comm #[{chan:=.chan (some r),send:=some v,zero:=bI}] true .send):=by
  obtain⟨d,op,ty,ps,af,gd⟩:=o;subst aa;simp only[a7,hx,hy];rfl
 have ab:aD P true (G (b.at a (.inRegion ops [i]::k)) cs) w=.comm (G (b.at a (.inRegion ops [i]::k)) cs) #[⟨.chan (some r),some v,bI⟩] true .send w (aK P b.fn (if(b.kind==CallKind.early)=true then #[]else #[])):=by
  show aD P true {frame:=b.at a _,callers:=cs,status:=.running,dying:=none} w=_;rw[hg,W];rfl
 have U:=(G1.send (P:=P) ab hc hb).next
 have Y:(b.at a (.inRegion ops [i]::k)).finish bI=b.at a (.inRegion ops []::k):=by
  rw[b',ho];simp[Act.put,hd]
 refine⟨.normal,a,_,h,.head U ?_⟩;show Steps P (aM ((b.at a (.inRegion ops [i]::k)).finish bI) cs _) _;rw[Y];exact .one step_region_end
theorem gz{id last:Nat}{tl:List Nat}{a:Act}{w:World}{Sd:Act->World->Prop}(hm:P.follows .mixedOrders=true)(h:WS P .any ops last (· = tl) Sd ops.size (aW ops.size false) (kV w) a)(U:∀a y,Sd a y->y.tape=w.tape->mD P ops Q (last::tl) a y):(Code.region id ops true).wp P Q a w:=by
 intro b k cs;obtain⟨e,W,w',Y,O⟩:=WS.sound (GO (P:=P) (ops:=ops) (Q:=Q) (τ₀:=w.tape)) (λa y l hl hh=>by rw[show l=tl from hl];exact U a y hh) _ _ _ _ a {w with drawn:=w.drawn+1} (kV.free w) (kV.at w _) h rfl b k cs;refine⟨e,W,w',Y,.of_steps (.one ?_) O⟩;rw[step_region_draw];simp only[aV,hm,bp,if_true];rfl
end
variable {Sd:Act->World->Prop} {ops:Array Oper} {id last:Nat}
section
variable {P:Program} {E:Env P} {fn:a8} {tm:Array Value} {os:List OF} {wl:World} {V:List (Nat×Option (List Value))} {k:List Item}
theorem iT.calls{i:Nat}{rest:List Nat}{o:Oper}{f:a8}{args:Array Value}{R:Ending->World->Prop}(hi:ops[i]?=some o)(hC:∀τ,A8 τ wl->a9 P f args (tp wl τ) R)(hR:∀e w',R e w'->∃v,e=.returned v/\dl E (⟨fn,eM o.dst tm v,.inRegion ops rest::k⟩::os) w' V) :
  iT E ⟨b9 P f args .normal,[door P],wl⟩ (⟨fn,tm,.inRegion ops (i::rest)::k⟩::os) V:=by
 let O:LS->Prop:=λS=>S.cs=[door P]/\∃v,S.fr.leaving P S.w (.returned v)/\R (.returned v) S.w;refine iT.nu (Stop:=λS=>∃τ,O (S.on τ)) (λS τ ⟨y,h⟩=>⟨y,h⟩) (λy W=>?_) λS' ⟨y,hc,v,hl,Y⟩=>?_;obtain⟨e,w',fr,Y,U,_,aa⟩:=hC y W _;obtain⟨v,rfl,_⟩:=hR e w' Y;obtain⟨n,hn⟩:=U;exact⟨n,⟨fr,[door P],w'⟩,hn,⟨w'.tape,rfl,v,aa,Y⟩,by simp⟩;obtain⟨v',hv,hW⟩:=hR _ _ Y;cases hv;exact iT.tape (τ:=y) (iT.ret hi hc hl hW)
theorem dl.any{i:Nat}{rest:List Nat}{o:Oper}(hi:ops[i]?=some o)(av:aO o (a5 ops tm)=true)(ho:OkOp P E.fw E.gl E.st o.op)
  (af:∀τ,iK P (tp wl τ) (λv y=>dl E (⟨fn,eM o.dst tm v,.inRegion ops rest::k⟩::os) y V) ((a7 (iS tm) o).run P (tp wl τ))):dl E (⟨fn,tm,.inRegion ops (i::rest)::k⟩::os) wl V:=by
 intro m Pd ρ gs w sl t fr' cs' W aw am ag h0;refine turn (Z:=E.Z) (a:=G fr' cs') (K:=λj=>(ρ j).sum) (N:=gs.size) rfl ?_ ρ gs w sl t aw (λ_=>rfl) h0 rfl;intro ρ' gs' w' ax aa d t' ab hK ah hN;have ai:=ag
 cases ag with
 |@cons _ _ O l ht ay=>
  have hs:=Gm W.pA.env W.pA.strict W.pA.il (gl:=E.gl) (ρ:=iS tm) (ρ':=iS O) (λx hx=>Km ht W.pA.ou x hx) (λc=>⟨rfl,rfl⟩) o (by rw[W.fw];exact ho);have an:=ab.main.tp (along wl (w'.at d));have ao:=hs.run (tp wl (along wl (w'.at d))) (w'.at d) #[] an (oI wl (w'.at d));have ap:=hs.loc (tp wl (along wl (w'.at d))) (w'.at d) an;have hJ:=af (along wl (w'.at d));have hy:aO o (a5 ops O)=true:=by rw[show a5 ops O=a5 ops tm from funext (lK ops ht)];exact av
  have aq:=lH (P:=P) (fn:=fn) (k:=k) (rest:=rest) (cs':=cs') (w:=w'.at d) hi hy;have ar:0<gs'.size:=(aY.1 ah).1;have ac:=λv'=>iX fn O ops i rest k v';simp only[hi,bF]at ac
  cases ad:(a7 (iS tm) o).run P (tp wl (along wl (w'.at d)))with
  |halt x wn=>rw[ad]at hJ;exact hJ.elim|ok n wn=>
   rw[ad]at hJ ao;obtain⟨U,n',w₁,es,e1,e2,e3,e4,_,e5,e6⟩:=ao;rw[bf]at e1
   have au:∀e∈aK P fn (if(CallKind.normal==CallKind.early)=true then #[]else es),oG U e:=λe he=>by
    have:=mem_seen he;split at this;simp at this;exact e6 e this
   have val:∀v v',VR U v v'->dl E (⟨fn,eM o.dst tm v,.inRegion ops rest::k⟩::os) wn V->bk P true (fN fn O (.inRegion ops (i::rest)::k)) cs' none (a7 (iS O) o) (w'.at d)=.go (G (fN fn (eM o.dst O v') (.inRegion ops rest::k)) cs') w₁ (aK P fn (if(CallKind.normal==CallKind.early)=true then #[]else es))->E.Z.Fin (crowd gs' w' ax) (runT P (crowd gs' (w'.at d) aa) 0) t':=by
    intro v v' hv hW aj;have ak:=runT_crowd_go (P:=P) (sl:=aa) (i:=0) ah (show aD P (0==0) _ (w'.at d)=_ from aq.trans aj);rw[ak];refine E.Z.next _ _ _ _ ?_;exact hW U Pd ρ' _ _ aa _ _ _ (W.le e2 e5) (ab.xb (gs':=(gs'.map (woken P _ _ w₁)).setIfInBounds 0 (G (fN fn (eM o.dst O v') (.inRegion ops rest::k)) cs')) e2 e5 au e4 (by simp) (gF _)) (am.le e2 hK) (.cons (o:=⟨fn,eM o.dst tm v,.inRegion ops rest::k⟩) ((ht.mono e2).eM o.dst hv) (ay.mono e2)) (by simp[ar])
   cases n<;>simp only[iK]at hJ
   case value v=>
    cases e3 with
    |@value _ v' hv=>
     refine val v v' hv hJ ?_;unfold bk;simp only[if_true,e1,ac];simp[bD,G,fN]
   case skip=>
    cases e3 with
    |skip=>
     refine val bI bI (.undef U) hJ ?_;unfold bk;simp only[if_true,e1,ac];simp[bD,G,fN]
   case enter f args=>
    obtain⟨rfl,hc⟩:=hJ
    have fy:∀τ,A8 τ (tp wl (along wl (w'.at d)))->a9 P f args (tp (tp wl (along wl (w'.at d))) τ) λe az=>∃v,e=.returned v/\dl E (⟨fn,eM o.dst tm v,.inRegion ops rest::k⟩::os) az V:=by
     intro τ _;rcases ap with⟨x,w2,ex,_⟩|⟨_,_,h3⟩
     rw[ad]at ex;cases ex;have h4:=h3 τ (by rw[ad];intro j a b;simp only[CH]at b;omega);rw[ad]at h4;have h4:(a7 _ o).run P (tp wl τ)=.ok _ _:=h4;have h5:=af τ;rw[h4]at h5;exact h5.2
    have hW:=iT.calls (E:=E) (fn:=fn) (tm:=tm) (os:=os) (V:=V) (k:=k) (rest:=rest) hi fy λe w' h=>h
    cases e3 with
    |@enter _ _ al hf hb ha=>
     have aj:bk P true (fN fn O (.inRegion ops (i::rest)::k)) cs' none (a7 (iS O) o) (w'.at d)=.go (G (b9 P f al .normal) (fN fn O (.inRegion ops (i::rest)::k)::cs')) w₁ (aK P fn (if(CallKind.normal==CallKind.early)=true then #[]else es)):=by
      unfold bk;simp only[if_true,e1];simp[bD,G,fN]
     have ak:=runT_crowd_go (P:=P) (sl:=aa) (i:=0) ah (show aD P _ _ _=_ from aq.trans aj);rw[ak];refine E.Z.next _ _ _ _ ?_;have Y:=W.le e2 e5;have ae:=ai.mono e2;exact hW U Pd ρ' _ _ aa _ _ _ _ Y (ab.xb (gs':=(gs'.map _).setIfInBounds 0 _) e2 e5 au e4 (by simp) (gF _)) (am.le e2 hK) ae (.one (Cu (Y.pA.env.calls f hf) hb ha _ _) rfl (.inl ⟨rfl,tL (.inl (by simp)) ae⟩) rfl) (by simp[ar])
theorem tD(o:Option Tmp)(tm:Array Value)(v:Value):(Act.put ⟨tm,[]⟩ o v)=⟨eM o tm v,[]⟩:=by cases o<;>rfl
def T'(E:Env P)(fn:a8)(ops:Array Oper)(k:List Item)(os:List OF)(V:List (Nat×Option (List Value)))(l:List Nat)(a:Act)(w:World):Prop:=a.defers=[]->dl E (⟨fn,a.tmps,.inRegion ops l::k⟩::os) w V
theorem Il(W:∀(i:Nat)o,i≠last->ops[i]?=some o->OkOp P E.fw E.gl E.st o.op):IZ P ops last (T' E fn ops k os V) where
 op:=by
  intro i rest a w o hl U Y hj O;obtain⟨tm,df⟩:=a;simp only at O;subst O;refine dl.any U Y (W i o hl U) λτ=>?_;have:=hj τ;unfold gm at this;refine iK.mono (λv y ⟨_,h⟩=>?_) this;rw[tD]at h;exact h rfl
 pass:=by
  intro i rest a w o _ U Y h O;obtain⟨tm,df⟩:=a;simp only at O;subst O;rw[tD]at h;exact dl.pass U Y (h rfl)
theorem dl.Ee{tl:List Nat->Prop}(hm:P.follows .mixedOrders=true)(O:∀(i:Nat)o,i≠last->ops[i]?=some o->OkOp P E.fw E.gl E.st o.op)(h:WS P .any ops last tl Sd ops.size (aW ops.size false) (kV wl) ⟨tm,[]⟩)
  (U:∀a y l,tl l->Sd a y->a.defers=[]/\dl E (⟨fn,a.tmps,.inRegion ops (last::l)::k⟩::os) y V):dl E (⟨fn,tm,.code (.region id ops true)::k⟩::os) wl V:=by
 refine dl.Ru λt=>?_;simp only[aV,hm,bp,if_true];exact WS.sound (Il O) (λa y l W h _=>(U a y l W h).2) _ t _ _ _ wl (kV.free wl) (kV.at wl _) h rfl
theorem dl.Hg{tl:List Nat}(hm:P.follows .mixedOrders=true)(O:∀(i:Nat)o,i≠last->ops[i]?=some o->OkOp P E.fw E.gl E.st o.op)(h:WS P .any ops last (· = tl) Sd ops.size (aW ops.size false) (kV wl) ⟨tm,[]⟩)
  (U:∀a y,Sd a y->a.defers=[]/\dl E (⟨fn,a.tmps,.inRegion ops (last::tl)::k⟩::os) y V):dl E (⟨fn,tm,.code (.region id ops true)::k⟩::os) wl V:=
 dl.Ee hm O h λa y l W Y=>by rw[show l=tl from W];exact U a y Y
end
end
section
open Go.Conc
variable {p:Addr} {tm:Array Value} {v:Value}
structure zz(P:Program)(f:a8)(gO:Func)(s:Tmp)(ty:aC)(ops:Array Oper)(rest:Code):Prop where
 fn:P.funcs[f]?=some gO
 body:gO.body=some (.seq (.region 0 ops false) rest)
 name:gO.name≠ "runtime.NumGoroutine"
 two:∃q0 q1 a0 a1,ops=#[{dst:=some s,op:=.load ty (.tmp 0),type:=ty,pos:=q0,after:=a0,guard:=none},{dst:=none,op:=.defer {callee:=.builtin .close,args:=#[.tmp s],argTypes:=#[ty]},type:=0,pos:=q1,after:=a1,guard:=none}]
 load:∀(a:Addr)(v:Value)(w:World),w.cell? a=some v->(bH ty (.pointer (some a)) >>= λv=>(pure (.value v):Sem Go.Next)).runT P w #[]=(.ok (.value v) w,#[⟨.cell a,false,false⟩])
def xj(P:Program):Frame:={(default:Frame)with fn:=P.funcs.size,defers:=[],mode:=.panicking [goexitEntry]}
section
variable {P:Program} {f:a8} {gO:Func} {s:Tmp} {ty:aC} {ops:Array Oper} {rest:Code}
def DK(f:a8)(tm:Array Value)(td:List Item)(y:List Deferred):Frame:=⟨f,tm,td,y,.run,.deferred,none⟩
theorem CU(y:zz P f gO s ty ops rest)(cap:Array Value)(w:World):aD P false (kR P ⟨.fn (.func f) cap,#[]⟩) w=.go (G (DK f (cap++aW (gO.ntmps-cap.size) bI) [.code (.seq (.region 0 ops false) rest)] []) [xj P]) w #[]:=by
 have U:(gO.name == "runtime.NumGoroutine")=false:=by simpa using y.name
 have O:(invoke (.fn (.func f) cap) #[]).runT P w #[]=(.ok (.enter f cap) w,#[]):=by
  have e:invoke (.fn (.func f) cap) #[]=callFunc f _:=rfl;rw[e,bf];unfold callFunc;have W:∀k:Program->Sem Go.Next,(program >>= k).runT P w #[]=(k P).runT P w _:=λk=>rfl;rw[W];simp only[y.fn,U,y.body,bn,if_false,Option.isNone_some];rfl
 have Y:aD P false (kR P ⟨.fn (.func f) cap,#[]⟩) w=aN P (xj P) [] none ⟨.fn (.func f) cap,#[]⟩ w:=rfl;rw[Y];unfold aN;simp only[O,Bool.false_and,bn,if_false];simp[bD,G,DK,b9,y.fn,y.body,aK]
theorem EY(f:a8)(tm:Array Value)(td:List Item)(y:List Deferred):(DK f tm td y).eval=iS tm:=by funext x;cases x<;>rfl
theorem Eh(hc:zz P f gO s ty ops rest){w:World}{ps:Frame}(hq:(P.funcs[f]?).any (·.norace)=false)(hp:tm.getD 0 bI=.pointer (some p))(hv:w.cell? p=some v) :
  aD P false (G (DK f tm [.inRegion ops [0,1],.code rest] []) [ps]) w=.go (G (DK f (tm.setIfInBounds s v) [.inRegion ops [1],.code rest] []) [ps]) w #[⟨.cell p,false,false⟩]:=by
 obtain⟨W,q1,Y,a1,O⟩:=hc.two;have e:aD P false (G (DK f tm [.inRegion ops [0,1],.code rest] []) [ps]) w=bl P false true (DK f tm [.inRegion ops [0,1],.code rest] []) _ none w:=rfl;rw[e];have he:=EY f tm [.inRegion ops [0,1],.code rest] []
 have U:(a7 (iS tm) {dst:=some s,op:=.load ty (.tmp 0),type:=ty,pos:=W,after:=Y,guard:=none}).runT P w #[]=(.ok (.value v) w,#[⟨.cell p,false,false⟩]):=by
  have e1:a7 (iS tm) {dst:=some s,op:=.load ty (.tmp 0),type:=ty,pos:=W,after:=Y,guard:=none}=(bH ty _ >>= λv=>pure _):=rfl;rw[e1];have e2:iS tm (.tmp 0)=.pointer _:=hp;rw[e2];exact hc.load p v w hv
 unfold bl;have y:ops[0]?=some {dst:=some s,op:=.load ty (.tmp 0),type:=ty,pos:=W,after:=Y,guard:=none}:=by rw[O];rfl
 simp only[DK,y,bG,bE];rw[if_pos (by simp[aO])];unfold bm;simp only[bB,y];have aa:bC ⟨f,tm,[.inRegion ops _,.code rest],[],.run,.deferred,none⟩=iS tm:=he;rw[aa];unfold bk;simp only[if_true,U];simp[bD,G,bA,y,aK,hq]
def RL(s:Tmp):Array Bool:=(#[Operand.tmp s]).map fun|.const _=>true|_=>false
theorem Dn(hc:zz P f gO s ty ops rest){w:World}{ps:Frame}(hs:tm.getD s bI=v):aD P false (G (DK f tm [.inRegion ops [1],.code rest] []) [ps]) w=.go (G (DK f tm [.inRegion ops [],.code rest] [⟨.builtin .close #[ty] 0 (RL s),#[v]⟩]) [ps]) w #[]:=by
 obtain⟨q0,W,a0,a1,O⟩:=hc.two;have e:aD P false (G (DK f tm [.inRegion ops [1],.code rest] []) [ps]) w=bl P false true (DK f tm [.inRegion ops [1],.code rest] []) _ none w:=rfl;have he:=EY f tm [.inRegion ops [1],.code rest] []
 have U:(a7 (iS tm) {dst:=none,op:=.defer {callee:=.builtin .close,args:=#[.tmp s],argTypes:=#[ty]},type:=0,pos:=W,after:=a1,guard:=none}).runT P w #[]=(.ok (.defer ⟨.builtin .close #[ty] 0 (RL s),#[v]⟩) w,#[]):=by
  have ha:(#[Operand.tmp s]).map (iS tm)=#[v]:=by simp[iS,Act.eval,<-hs]
  have e1:a7 (iS tm) {dst:=none,op:=.defer {callee:=.builtin .close,args:=#[.tmp s],argTypes:=#[ty]},type:=0,pos:=W,after:=a1,guard:=none}=pure _:=rfl;rw[e1,ha];rfl
 rw[e];unfold bl;have y:ops[1]?=some {dst:=none,op:=.defer {callee:=.builtin .close,args:=#[.tmp s],argTypes:=#[ty]},type:=0,pos:=W,after:=a1,guard:=none}:=by rw[O];rfl
 simp only[DK,y,bG,bE];rw[if_pos (by simp[aO])];unfold bm;simp only[bB,y];have Y:bC ⟨f,tm,[.inRegion ops _,.code rest],[],.run,.deferred,none⟩=iS tm:=he;rw[Y];unfold bk;simp only[if_true,U];simp[bD,G,bA,y,aK]
theorem Au{J:mJ}{m:Ren}{S:LS}{cap y:Array Value}(hc:zz P f gO s ty ops rest)(hq:(P.funcs[f]?).any (·.norace)=false)(ag:l6 P m J.gl false)(Y:¬m.il)(ah:Open m)(hJ:J.Ren m)(hT:J.T=[xj P])(O:ep m cap y)(ai:cap[0]?=some (.pointer (some p)))(au:s≠0)(hs:s<gO.ntmps)(hn:cap.size<=gO.ntmps)(aj:S.w.cell? p=some (.chan (some J.r)))(ak:fF m.ok rest)
  (hS:S.fr=⟨f,(cap++aW (gO.ntmps-cap.size) bI).setIfInBounds s (.chan (some J.r)),[.code rest],[⟨.collected J.rd,#[.chan (some J.r)]⟩],.run,.normal,none⟩) (aa:S.cs=[door P]):rb P J m S 5 (kR P ⟨.fn (.func f) y,#[]⟩):=by
 have av:∀w:World,w.at w.drawn=w:=λw=>rfl;obtain⟨q',ab,al⟩:=O.get ai
 have am:∃p',q'=.pointer (some p')/\AR m p p':=by
  cases al with
  |ptr ha=>exact⟨_,rfl,ha⟩
 obtain⟨p',rfl,ac⟩:=am
 have ad:(y++aW (gO.ntmps-y.size) bI).getD 0 bI=.pointer (some p'):=by
  have an:0<y.size:=(aY.1 ab).1;rw[aZ,ba an,ab];rfl
 have W:∀w,WR m S.w w->w.cell? p'=some (.chan (some J.c)):=by
  intro w U;obtain⟨v',ao,ap⟩:=U.cell ac aj
  cases ap with
  |chan hb=>
   rw[hJ.ch]at hb;cases hb;exact ao
 have aq:y.size=cap.size:=O.size.symm;refine⟨rfl,λw U=>⟨_,w.drawn,#[],CU hc y w,by simp,?_⟩⟩;refine⟨rfl,λw U=>⟨G (DK f (y++aW (gO.ntmps-y.size) bI) [.code (.region 0 ops false),.code rest] []) [xj P],w.drawn,#[],rfl,by simp,?_⟩⟩;refine⟨rfl,λw U=>⟨G (DK f (y++aW (gO.ntmps-y.size) bI) [.inRegion ops [0,1],.code rest] []) [xj P],w.drawn,#[],?_,by simp,?_⟩⟩
 .obtain⟨q0,q1,a0,a1,ae⟩:=hc.two;have:bw ops.size=[0,1]:=by rw[ae];rfl
  show bl P false true (DK f (y++aW (gO.ntmps-y.size) bI) [.code (.region 0 ops false),.code rest] []) [xj P] none w=_;unfold bl;simp[DK,G,this];rfl
 refine⟨rfl,λw U=>⟨_,w.drawn,_,Eh (ps:=xj P) hc hq ad (W w U),?_,?_⟩⟩
 .intro e he;simp only[List.mem_toArray,br,bq,or_false]at he;subst he;exact⟨rfl,p,ac,λh=>by cases h⟩
 have af:((y++aW (gO.ntmps-y.size) bI).setIfInBounds s (.chan (some J.c))).getD s bI=.chan (some J.c):=by
  have hz:(y++aW (gO.ntmps-y.size) bI).size=gO.ntmps:=by simp;omega
  have:s<(y++aW (gO.ntmps-y.size) bI).size:=by rw[hz];exact hs
  rw[aZ,Array.getElem?_setIfInBounds_self_of_lt this];rfl
 have ar:=λw=>Dn (ps:=xj P) (w:=w) hc af;refine⟨rfl,λw U=>⟨_,w.drawn,#[],ar w,by simp,?_⟩⟩;refine⟨rfl,λw U=>⟨DK f _ _ _,[xj P],w.drawn,#[],rfl,by simp,?_⟩⟩;refine⟨ag,Y,ah,?_,U.at _⟩;rw[aa,hS,hT];refine .one ⟨rfl,?_,.cons (.code rest ak) .nil,.cons ⟨.mark _ _ _ hJ.dead,.one (.chan hJ.ch)⟩ .nil,.run,.none⟩ rfl (.inr ⟨rfl,xj P,rfl,rfl⟩) rfl;rw[aq];exact(O.append (.replicate _ (.undef m))).set s (.chan hJ.ch)
end
variable {c:Array Value} {caps:List Nat} {r:Nat}
structure Ren.yv(m m':Ren):Prop where
 blk:m'.blk=m.blk
 ch:m'.ch=m.ch
 ok:m'.ok=m.ok
 fw:m'.fw=m.fw
 il:m'.il=m.il
 dead:m'.dead=m.dead
 dm:m'.dm=m.dm
 G:m'.G=m.G
 rY:m'.rY=m.rY
section
variable {m m':Ren}
theorem AR.jW(h:m.yv m'){a y:Addr}(x:AR m a y):AR m' a y:=by cases x with|mk hb=>exact .mk (by rw[h.blk];exact hb)
theorem MY.jW(h:m.yv m'){a y:Fn}(x:MY m a y):MY m' a y:=by
 cases x with
 |func f O=>exact .func f (by rw[h.fw];exact O)|yield hb=>exact .yield (by rw[h.blk];exact hb)
theorem VR.jW(h:m.yv m'){v Y:Value}(x:VR m v Y):VR m' v Y:=by
 induction x with
 |fK v hv=>exact .fK v hv|q9 y _ U O=>exact .q9 y O U|bool|int|string|gQ|fu|my|iW|nilFunc|nilIface=>constructor|ptr W=>exact .ptr (W.jW h)|slice l c W=>exact .slice l c (W.jW h)|map hb=>exact .map (by rw[h.blk];exact hb)|gone hd=>rw[<-h.dm];exact .gone (by rw[h.dead];exact hd)|chan hb=>exact .chan (by rw[h.ch];exact hb)|func hf y _ U _ i1 i2=>exact .func (hf.jW h) y i1 U i2|iface t _ O=>exact .iface t O|agg y _ O=>exact .agg y O|tuple y _ O=>exact .tuple y O
theorem ep.jW(h:m.yv m'){y:Array Value}(x:ep m c y):ep m' c y:=dQ.mono (λ_ _=>VR.jW h) x
theorem TR.jW(h:m.yv m'){a O:Target}(x:TR m a O):TR m' a O:=by
 cases x with
 |fn U=>exact .fn (U.imp (λy=>⟨y.1.jW h,y.2.jW h⟩) id)|nil=>exact .nil|builtin a t c hm=>exact .builtin a t c (by rw[h.il];exact hm)|mark a t c W=>exact .mark a t c (by rw[h.dead];exact W)|collected hb=>exact .collected (by rw[h.blk];exact hb)
theorem DR.jW(h:m.yv m'){a y:Deferred}(x:DR m a y):DR m' a y:=⟨x.target.jW h,x.args.jW h⟩
theorem sV.jW(h:m.yv m'){a y:MapEntry}(x:sV m a y):sV m' a y:=⟨x.key.jW h,x.val.jW h,x.born⟩
theorem vW.jW(h:m.yv m'){a y:Loop}(x:vW m a y):vW m' a y:=
 ⟨x.state,x.pending,λc O=>by rw[h.ok];exact x.TO c O,x.fn,x.tmps.jW h,x.params,x.assign,x.body,by rw[h.ok];exact x.Tu,by rw[h.ok];exact x.wP,by rw[h.blk];exact x.defers⟩
theorem OR.jW(h:m.yv m'){a O:Obj}(x:OR m a O):OR m' a O:=by
 cases x with
 |cells e f f' U=>exact .cells e f f' (U.jW h)|map clock W=>exact .map clock (dQ.mono (λ_ _ y=>y.jW h) W)|number l Y=>exact .number l (Y.jW h)|stringIter s p=>exact .stringIter s p|fT a b c=>exact .fT a b c|mapIter a b c hb=>exact .mapIter a b c (by rw[h.blk];exact hb)|loop hl=>exact .loop (hl.jW h)|eT=>exact .eT|deferred hd=>exact .deferred (dQ.mono (λ_ _ y=>y.jW h) hd)
theorem nR.jW(h:m.yv m'){T:List Frame}{os:List OF}{l:List Frame}(x:nR m T os l):nR m' T os l:=by
 induction x with
 |nil=>exact .nil|cons y _ O=>exact .cons (y.jW h) O
end
def O9:Obj->Obj
 |.cells c e _=>.cells c e (0,c.size)|o=>o
def sJ(w:World)(caps:List Nat):World:={w with heap:=w.heap.mapIdx λi o=>if i∈caps then O9 o else o}
def Ren.Aq(m:Ren)(caps:List Nat):Ren:={m with loose:=λr=>m.loose r\/r∈caps}
theorem Ren.BN(m:Ren)(caps:List Nat):m.yv (m.Aq caps):=⟨rfl,rfl,rfl,rfl,rfl,rfl,rfl,rfl,rfl⟩
theorem xp(w:World)(caps:List Nat)(r:Nat):(sJ w caps).heap[r]?=(w.heap[r]?).map λo=>if r∈caps then O9 o else o:=by
 unfold sJ;simp only[Array.getElem?_mapIdx]
theorem ur(w:World)(caps:List Nat):(sJ w caps).heap.size=w.heap.size:=by simp[sJ]
theorem pV(w:World)(h:r ∉ caps):(sJ w caps).heap[r]?=w.heap[r]?:=by
 rw[xp];cases w.heap[r]?<;>simp[h]
theorem zW(w:World)(h:r∈caps){e:aC}{f:Nat×Nat}(y:w.heap[r]?=some (.cells c e f)):(sJ w caps).heap[r]?=some (.cells c e (0,c.size)):=by
 rw[xp,y];simp[h,O9]
theorem WR.Aq{m:Ren}{wl w:World}(h:WR m wl w)(hc:∀r∈caps,∃c e f,wl.heap[r]?=some (.cells c e f))(hd:∀r∈caps,¬m.dead r):WR (m.Aq caps) (sJ wl caps) w:=by
 have jW:=m.BN caps
 have back:∀r c e f,(sJ wl caps).heap[r]?=some (.cells c e f)->∃f0,wl.heap[r]?=some (.cells c e f0)/\(r ∉ caps->f0=f)/\(r∈caps->f=(0,c.size)):=by
  intro r c e f Y;by_cases O:r∈caps;obtain⟨c0,e0,f0,U⟩:=hc r O;rw[zW wl O U]at Y;cases Y;exact⟨f0,U,λx=>absurd O x,λ_=>rfl⟩;rw[pV wl O]at Y;exact⟨f,Y,λ_=>rfl,λx=>absurd x O⟩
 refine⟨λr r' hb=>?_,λr r' c e f c' e' f' hb h1 h2 hn=>?_,λr r' c e f c' e' f' hb h1 h2 hl=>?_,λr r' hb=>?_,?_,h.JQ,h.os,λr o ho=>?_,λr r' hb hl=>?_,λr Y=>?_,λr i v hv=>?_⟩;obtain⟨o,o',g1,g2,g3⟩:=h.obj r r' hb;by_cases O:r∈caps;obtain⟨c0,e0,f0,U⟩:=hc r O;rw[U]at g1;cases g1
 cases g3 with
 |cells _ _ f' aa=>exact⟨_,_,zW wl O U,g2,.cells _ _ _ (aa.jW jW)⟩
 exact⟨o,o',by rw[pV wl O];exact g1,g2,g3.jW jW⟩;obtain⟨f0,U,x,_⟩:=back r c e f h1;have W:=λy=>hn (.inr y);rw[<-x W];exact h.fz r r' c e f0 c' e' f' hb U h2 λy=>hn (.inl y);obtain⟨f0,U,x,y⟩:=back r c e f h1;by_cases O:r∈caps;rw[y O];exact λo ho=>⟨b4 _,ho⟩;rw[<-x O];exact h.all r r' c e f0 c' e' f' hb U h2 (hl.resolve_right O);have:=h.Nc r r' hb;exact⟨by rw[ur];exact this.1,this.2⟩;rw[ur];exact h.Na;obtain⟨g1,g2⟩:=h.kI r o ho;refine⟨?_,g2⟩
 have W:r ∉ caps:=λO=>by
  obtain⟨c0,e0,f0,U⟩:=hc r O;obtain⟨a,b,c,d,e,f,rfl⟩:=g2;rw[U]at g1;cases g1
 rw[pV wl W];exact g1;by_cases O:r∈caps;obtain⟨c0,e0,f0,U⟩:=hc r O;exact⟨_,_,_,zW wl O U⟩;obtain⟨c0,e0,f0,U⟩:=h.lk r r' hb (hl.resolve_right O);exact⟨_,_,_,by rw[pV wl O];exact U⟩;obtain⟨g1,c0,e0,f0,g⟩:=h.dead r Y;have W:=λO=>hd r O Y;exact⟨g1,c0,e0,f0,by rw[pV wl W];exact g⟩;obtain⟨r',hb,hp⟩:=h.rY r i v hv;refine⟨r',hb,λc e f c' e' f' x g1 g2=>?_⟩;obtain⟨f0,U,_,_⟩:=back r c e f g1;exact hp c e f0 c' e' f' x U g2
variable {c i:Nat} {B:Nat->Nat} {M:Option Nat}
def Tq:Obj:=.cells #[] 0 (0,0)
def Kh(C:Nat->Obj)(ch ex:Obj):Array Obj:=#[Tq,Tq,Tq,Tq,Tq,C 0,C 1,C 2,C 3,Tq,ch,ex]
def Jr(B:Nat->Nat)(M:Option Nat)(r:Nat):Option Nat:=if 5<=r/\r<9 then some (B (r-5))else if r=11 then M else none
structure U5(B:Nat->Nat)(M:Option Nat):Prop where
 low:∀i,i<4->5<=B i
 inj:∀i j,i<4->j<4->B i=B j->i=j
 UK:∀b,M=some b->5<=b
 UO:∀b i,M=some b->i<4->B i≠b
theorem ia{r b:Nat}(h:Jr B M r=some b):(∃i,i<4/\r=5+i/\b=B i)\/(r=11/\M=some b):=by
 unfold Jr at h;split at h;exact .inl ⟨r-5,by omega,by omega,(Option.some.inj h).symm⟩;split at h;rename_i y;exact .inr ⟨y,h⟩
 cases h
theorem Lb(B:Nat->Nat)(M:Option Nat)(hi:i<4):Jr B M (5+i)=some (B i):=by
 unfold Jr;rw[if_pos (by omega)];congr 2;omega
def AB{B:Nat->Nat}{M:Option Nat}(h:U5 B M)(c:Nat)(ch:Obj):Ren where
 blk:=Jr B M
 ch:=λr=>if r=10 then some c else none
 loose:=λr=>5<=r/\r<9
 ok:=Nd prog tR Ct false
 fw:=λf=>tR f=true
 il:=False
 dead:=λr=>r=9
 dm:=λ_=>0
 rY:=λ_ _=>none
 kI:=λr=>if r=10 then some ch else none
 G:=5
 ou:=λr r' y=>by
  rcases ia y with⟨i,hi,rfl,rfl⟩|⟨rfl,O⟩
  .have:=h.low i hi
   constructor<;>intro x<;>omega
  .have:=h.UK r' O
   constructor<;>intro x<;>omega
 inj:=λr s t y U=>by
  rcases ia y with⟨i,hi,rfl,rfl⟩|⟨rfl,O⟩
  .rcases ia U with⟨j,W,rfl,e⟩|⟨rfl,O⟩
   .rw[h.inj i j hi W e]
   .exact absurd rfl (h.UO _ i O hi)
  .rcases ia U with⟨j,W,rfl,rfl⟩|⟨rfl,_⟩
   .exact absurd rfl (h.UO _ j O W)
   .rfl
 vm:=λr s t y U=>by
  split at y
  .split at U
   .rename_i Y e2;rw[Y,e2]
   .cases U
  .cases y
theorem Ob(h:U5 B M)(c:Nat)(ch:Obj):l6 prog (AB h c ch) (λg=>Ct g=true) false:=Rm rfl rfl rfl
theorem BK(C:Nat->Obj)(ch ex:Obj)(hi:i<4):(Kh C ch ex)[5+i]?=some (C i):=by
 match i,hi with
 |0,_=>rfl|1,_=>rfl|2,_=>rfl|3,_=>rfl
theorem WR.SR(h:U5 B M){C:Nat->Obj}{cap:Nat}{ex:Obj}{W w:World}(U:W.heap=Kh C (.chan cap #[] false 0 0 false) ex)(ab:w.os=W.os)(ac:5<=w.heap.size)(hc:c<w.heap.size)
  (O:∀i,i<4->∃a Y e f',C i=.cells a e (0,a.size)/\w.heap[B i]?=some (.cells Y e f')/\ep (AB h c (.chan cap #[] false 0 0 false)) a Y)
  (hM:∀b,M=some b->∃o',w.heap[b]?=some o'/\OR (AB h c (.chan cap #[] false 0 0 false)) ex o'/\∀a e f,ex≠.cells a e f):WR (AB h c (.chan cap #[] false 0 0 false)) W w:=by
 have get:∀i,i<4->W.heap[5+i]?=some _:=λi hi=>by rw[U];exact BK C _ ex hi
 have aa:W.heap[11]?=some ex:=by rw[U];rfl
 refine⟨λr r' y=>?_,λr r' c1 e1 f1 c2 e2 f2 y h1 h2 hn=>?_,λr r' c1 e1 f1 c2 e2 f2 y h1 h2 hl=>?_,λr r' y=>?_,(by rw[U];show 5<=12;omega),ac,ab,λr o y=>?_,λr r' y hl=>?_,λr y=>?_,λr i v hv=>(by cases hv)⟩;rcases ia y with⟨i,hi,rfl,rfl⟩|⟨rfl,hm⟩
 obtain⟨a,Y,e,f',x1,x2,x3⟩:=O i hi;exact⟨_,_,by rw[get i hi,x1],x2,.cells e _ f' x3⟩;obtain⟨o',x1,x2,_⟩:=hM r' hm;exact⟨_,_,aa,x1,x2⟩;rcases ia y with⟨i,hi,rfl,rfl⟩|⟨rfl,hm⟩
 exact absurd (show(AB h c _).loose _ from⟨by omega,by omega⟩) hn;rw[aa]at h1;obtain⟨_,_,_,x⟩:=hM r' hm;cases h1;exact absurd rfl (x _ _ _);rcases ia y with⟨i,hi,rfl,rfl⟩|⟨rfl,hm⟩
 obtain⟨a,Y,e,f',x1,x2,x3⟩:=O i hi;rw[get i hi,x1]at h1;cases h1;exact λo ho=>⟨b4 _,ho⟩;exact absurd hl.2 (by omega);have y:(if r=10 then some c else none)=some r':=y;split at y;rename_i e;cases y;exact⟨by rw[U,e];show 10<12;omega,hc⟩
 cases y;have y:(if r=10 then some _ else none)=some o:=y;split at y;rename_i e;cases y;exact⟨by rw[U,e];rfl,_,_,_,_,_,_,rfl⟩
 cases y;rcases ia y with⟨i,hi,rfl,rfl⟩|⟨rfl,hm⟩
 obtain⟨a,Y,e,f',x1,x2,x3⟩:=O i hi;exact⟨_,_,_,by rw[get i hi,x1]⟩;exact absurd hl.2 (by omega);have e:=y;subst e;exact⟨by simp[AB,Jr],_,_,_,by rw[U];rfl⟩
def Ng(P:Program)(f:a8)(L:List Value)(y:World->Prop)(S:LS):Prop:=S.cs=[door P]/\S.fr.mode=.returning/\S.fr.defers=[⟨.collected 9,#[.chan (some 10)]⟩]/\S.fr.fn=f/\Holds S 10 L/\y S.w
def S6(P:Program)(f:a8)(L:List Value)(c:Nat)(y:World->Prop)(kQ:Nat->Nat->Obj->Prop):mJ where
 gl:=λg=>Ct g=true
 T:=[xj P]
 Stop:=Ng P f L y
 r:=10
 c:=c
 rd:=9
 L:=L
 kQ:=kQ
theorem Re{f:a8}{L:List Value}{y:World->Prop}{kQ:Nat->Nat->Obj->Prop}{gO:Func}(hf:prog.funcs[f]?=some gO)(hr:gO.results=#[])(hn:gO.norace=false)(hb:∀w τ,y (tp w τ)->y w)(hk:∀w,y w->∀r b o,kQ r b o->w.heap[r]?=some o/\∀(m:Ren)o',OR m o o'->o'=o):(S6 prog f L c y kQ).Ok prog where
 blind:=λS τ ⟨O,U,W,Y,h5,h6⟩=>⟨O,U,W,Y,h5,hb _ _ h6⟩
 holds:=λS h=>h.2.2.2.2.1;TD:=λS ⟨O,U,W,Y,_⟩=>⟨O,U,W,gO,by rw[Y];exact hf,hr,hn⟩;back:=λS h r b o x=>hk S.w h.2.2.2.2.2 r b o x
 US:=⟨xj prog,rfl,rfl,rfl,by
  show prog.funcs[prog.funcs.size]?=none
  simp,rfl⟩
end
section
open Go.Conc
variable {m:Ren}
def xh(b:Nat->Nat):Array Value:=#[.pointer (some ⟨b 0,0,none⟩),.pointer (some ⟨b 1,0,none⟩),.pointer (some ⟨b 2,0,none⟩),.pointer (some ⟨b 3,0,none⟩)]
theorem N9(b:Nat->Nat){i:Nat}(hi:i<4):(xh b)[i]?=some (.pointer (some ⟨b i,0,none⟩)):=by
 match i,hi with
 |0,_=>rfl|1,_=>rfl|2,_=>rfl|3,_=>rfl
theorem O2{b B:Nat->Nat}(h:∀i,i<4->m.blk (b i)=some (B i)):ep m (xh b) (xh B):=
 .cons (.ptr (.mk (h 0 (by omega)))) (.cons (.ptr (.mk (h 1 (by omega)))) (.cons (.ptr (.mk (h 2 (by omega)))) (.cons (.ptr (.mk (h 3 (by omega)))) .nil)))
theorem NK{b:Nat->Nat}{y:Array Value}(h:ep m (xh b) y):∃B:Nat->Nat,y=xh B/\∀i,i<4->m.blk (b i)=some (B i):=by
 have O:=h.size
 have get:∀i,i<4->∃B,y[i]?=some (.pointer (some ⟨B,0,none⟩))/\m.blk (b i)=some B:=by
  intro i hi;obtain⟨v',U,W⟩:=h.get (N9 b hi)
  cases W with
  |ptr Y=>
   cases Y with
   |mk hb=>exact⟨_,U,hb⟩
 obtain⟨B0,a0,e0⟩:=get 0 (by omega);obtain⟨B1,a1,e1⟩:=get 1 (by omega);obtain⟨B2,a2,e2⟩:=get 2 (by omega);obtain⟨B3,a3,e3⟩:=get 3 (by omega);refine⟨λi=>match i with|0=>B0|1=>B1|2=>B2|_=>B3,?_,λi hi=>?_⟩;apply be;intro i;match i with
 |0=>rw[a0];rfl|1=>rw[a1];rfl|2=>rw[a2];rfl|3=>rw[a3];rfl|i+4=>
  have:y.size=4:=O.symm;rw[aX (by omega),aX (by show 4<=i+4;omega)]
 match i,hi with
 |0,_=>exact e0|1,_=>exact e1|2,_=>exact e2|3,_=>exact e3
theorem Rg.Aq{P:Program}{E E₂:Env P}(h:Rg E m)(caps:List Nat)(y:∀m:Ren,m.ok=E₂.ok->m.fw=E₂.fw->m.G=P.globals.size->l6 P m E₂.gl E₂.st)(O:E₂.fw=E.fw)(U:E₂.ok=E.ok)(W:E₂.X (m.Aq caps)):Rg E₂ (m.Aq caps):=
 ⟨y _ (h.Si.trans U.symm) (h.fw.trans O.symm) h.pA.env.G,h.il,h.mz,h.fw.trans O.symm,h.Si.trans U.symm,W⟩
structure Vi(E E₂:Env prog)(wl:World)(rc:Nat)(b:Nat->Nat)(cm cd:Nat->Array Value)(te:Nat->aC)(fz:Nat->Nat×Nat)(M:Option Nat)(ex:Obj):Prop where
 z:E₂.Z=E.Z
 t:E₂.T=E.T
 w:E₂.w0=E.w0
 fw:E₂.fw=E.fw
 ok:E₂.ok=E.ok
 pA:∀m:Ren,m.ok=E₂.ok->m.fw=E₂.fw->m.G=prog.globals.size->l6 prog m E₂.gl E₂.st
 x:∀m,Rg E m->E₂.X (m.Aq [b 0,b 1,b 2,b 3])
 fix:∀q,E₂.fC q↔E.fC q/\M≠some q
 low:∀i,i<4->5<=b i
 inj:∀i j,i<4->j<4->b i=b j->i=j
 cells:∀i,i<4->wl.heap[b i]?=some (.cells (cm i) (te i) (fz i))
 live:∀m,Rg E m->∀i,i<4->¬m.dead (b i)
 m0:cm 0=#[.chan (some rc)]
 d0:cd 0=#[.chan (some 10)]
 conv:∀i,1<=i->i<4->∀(m mi:Ren)w a',Rg E m->WR m wl w->(∀q,M=some q->mi.blk 11=some q)->ep m (cm i) a'->ep mi (cd i) a'
 map:∀q,M=some q->5<=q/\E.fC q/\E.w0.heap[q]?=some ex/\(∀m:Ren,OR m ex ex)/\(∀(m:Ren)o',OR m ex o'->o'=ex)/\(∀a e f,ex≠.cells a e f)/\∀(m:Ren)(r:Nat)(o:Obj),wl.heap[r]?=some o->¬OR m o ex
def sF(wl:World)(cd:Nat->Array Value)(te:Nat->aC)(cap:Nat)(ex:Obj):World:={wl with heap:=Kh (λi=>.cells (cd i) (te i) (0,(cd i).size)) (.chan cap #[] false 0 0 false) ex}
def uM(f:a8)(n:Nat)(s:Tmp)(rest:Code):Frame:=⟨f,(xh (λi=>5+i)++aW (n-4) bI).setIfInBounds s (.chan (some 10)),[.code rest],[⟨.collected 9,#[.chan (some 10)]⟩],.run,.normal,none⟩
theorem F5{E E₂:Env prog}{f:a8}{gO:Func}{s:Tmp}{ty:aC}{ops:Array Oper}{rest:Code}{wl:World}{rc:Nat}{b:Nat->Nat}{cm cd:Nat->Array Value}{te:Nat->aC}{fz:Nat->Nat×Nat}{M:Option Nat}{ex:Obj}{L:List Value}{cap:Nat}{os:List OF}
  (hc:zz prog f gO s ty ops rest) (ao:gO.results=#[]) (ap:gO.norace=false) (aw:s≠0) (hs:s<gO.ntmps) (hn:4<=gO.ntmps) (ax:jK (λo=>Ga prog tR Ct false o.op) rest=true) (hL:∀v∈L,Flat v) (y:Vi E E₂ wl rc b cm cd te fz M ex)
  (aq:∀τ,∃n W,runN prog n (aM (uM f gO.ntmps s rest) [door prog] (tp (sF wl cd te cap ex) τ))=.next (LS.m W)/\Ng prog f L (λw=>M=none\/w.heap[11]?=some ex) W) :
  Sends E E₂ f (xh b) os os wl (sJ wl [b 0,b 1,b 2,b 3]) rc L:=by
 refine⟨y.z,y.t,y.w,λq Y=>((y.fix q).1 Y).1,λv hv=>(hL v hv).eq,λm ay w c aa af hw az ar ab=>?_⟩;obtain⟨B,rfl,hB⟩:=NK af;have hG:m.G=5:=by rw[aa.pA.env.G,xX]
 have ag:∀r,r∈[b 0,b 1,b 2,b 3]↔∃i,i<4/\r=b i:=by
  intro r;constructor;intro h;simp only[br,bq,or_false]at h;rcases h with h|h|h|h
  exact⟨0,by omega,h⟩;exact⟨1,by omega,h⟩;exact⟨2,by omega,h⟩;exact⟨3,by omega,h⟩;rintro⟨i,hi,rfl⟩;match i,hi with
  |0,_=>simp|1,_=>simp|2,_=>simp|3,_=>simp
 have ah:∀q,M=some q->∀r,m.blk r≠some q:=by
  intro q Y r O;obtain⟨_,U,h3,_,_,_,h7⟩:=y.map q Y;obtain⟨o,o',e1,e2,e3⟩:=hw.obj r q O;rw[ab q U,h3]at e2;cases e2;exact h7 m r o e1 e3
 have hS:U5 B M:=by
  refine⟨λi hi=>?_,λi j hi hj e=>?_,λq Y=>(y.map q Y).1,λq i Y hi e=>?_⟩;have:=(m.ou (b i) (B i) (hB i hi)).2;rw[hG]at this;have h5:=y.low i hi;apply Classical.byContradiction;intro hx;have:=this (by omega);omega;exact y.inj i j hi hj (m.inj _ _ _ (hB i hi) (e▸hB j hj));exact ah q Y (b i) (e▸hB i hi)
 let mi:=AB hS c (.chan cap #[] false 0 0 false);have ac:∀q,M=some q->mi.blk 11=some q:=λq Y=>by simp[mi,AB,Jr,Y]
 have ad:mi.ch 10=some c:=by simp[mi,AB]
 have au:c<w.heap.size:=by
  obtain⟨s,r,hx⟩:=ar;exact jE hx
 have ai:∀i,i<4->∃a',∃f',w.heap[B i]?=some (.cells a' (te i) f')/\ep m (cm i) a':=by
  intro i hi;obtain⟨o,o',h1,U,h3⟩:=hw.obj (b i) (B i) (hB i hi);rw[y.cells i hi]at h1;cases h1
  cases h3 with
  |cells _ _ f' ha=>exact⟨_,f',U,ha⟩
 have aj:∀i,i<4->∀a',ep m (cm i) a'->ep mi (cd i) a':=by
  intro i hi a' ha;by_cases h0:i=0;subst h0;rw[y.m0]at ha;rw[y.d0];obtain⟨al⟩:=a';unfold ep at ha⊢;simp only at ha⊢
  cases ha with
  |cons hv hn=>
   cases hn
   cases hv with
   |chan hb=>
    rw[az]at hb;cases hb;exact .cons (.chan ad) .nil
  exact y.conv i (by omega) hi m mi w a' aa hw ac ha
 have a0:WR mi (sF wl cd te cap ex) w:=by
  refine WR.SR (C:=λi=>.cells (cd i) (te i) (0,(cd i).size)) (ex:=ex) hS rfl hw.os (by have:=hw.JQ;omega) au (λi hi=>?_) (λq Y=>?_);obtain⟨a',f',h1,U⟩:=ai i hi;exact⟨cd i,a',te i,f',rfl,h1,aj i hi a' U⟩;obtain⟨_,U,h3,h4,_,h6,_⟩:=y.map q Y;exact⟨ex,by rw[ab q U,h3],h4 mi,h6⟩
 have ak:∀r r',mi.ch r=some r'->r=10:=by
  intro r r' O;have O:(if r=10 then some c else none)=some r':=O;split at O;rename_i e;exact e
  cases O
 have av:=Ob hS c (.chan cap #[] false 0 0 false)
 have ae:(S6 prog f L c (λw=>M=none\/w.heap[11]?=some ex) (λr q o=>r=11/\M=some q/\o=ex)).Ren mi:=
  ⟨ad,ak,rfl,λr q o ⟨h1,U,_⟩=>by rw[h1];exact ac q U⟩
 have am:Open mi:=λr r' O=>by
  have O:(if r=10 then some c else none)=some r':=O;split at O;rename_i e;exact⟨cap,#[],0,0,false,by simp[mi,AB,e]⟩
  cases O
 let S:LS:=⟨uM f gO.ntmps s rest,[door prog],sF wl cd te cap ex⟩;have an:=m.BN [b 0,b 1,b 2,b 3];refine⟨S6 prog f L c (λw=>M=none\/w.heap[11]?=some ex) (λr q o=>r=11/\M=some q/\o=ex),mi,S,5,m.Aq [b 0,b 1,b 2,b 3],rfl,rfl,Re hc.fn ao ap (λw τ h=>h) (λw hk r q o ⟨h1,U,h3⟩=>?_),ae,λτ _=>?_,?_,a0,?_,aa.Aq _ y.pA y.fw y.ok (y.x m aa),hw.Aq (λr O=>?_) (λr O=>?_),rfl,λl hl=>hl.jW an,λr q O=>⟨r,O,λh=>.inl h⟩,λr q O=>?_,λr r' q h1 U=>?_,λr q O hf=>?_,λq Y=>?_⟩;subst h1 h3;obtain⟨_,_,_,_,h5,_⟩:=y.map q U;exact⟨hk.resolve_left (by rw[U];simp),h5⟩;obtain⟨n,W,h1,U⟩:=aq τ;exact⟨n,W,h1,U,by rw[U.1];simp⟩;exact⟨cap,#[],0,0,false,rfl,rfl⟩;refine Au (cap:=xh λi=>5+i) (p:=⟨5,0,none⟩) hc (by rw[hc.fn];simp[ap]) av (λh=>h) am ae rfl (O2 λi hi=>Lb B M hi) rfl aw hs hn ?_ (oO ax) rfl rfl;show(sF wl cd te cap ex).cell? ⟨5,0,none⟩=_
 have hg:(sF wl cd te cap ex).heap[5]?=some (.cells #[.chan (some 10)] (te 0) (0,1)):=by
  show(Kh _ _ _)[5]?=_;rw[show(5:Nat)=5+0 from rfl,BK _ _ _ (by omega:(0:Nat)<4),y.d0];rfl
 unfold World.cell?;simp only[hg];rfl;obtain⟨i,hi,rfl⟩:=(ag r).1 O;exact⟨_,_,_,y.cells i hi⟩;obtain⟨i,hi,rfl⟩:=(ag r).1 O;exact y.live m aa i hi;rcases ia O with⟨i,hi,rfl,rfl⟩|⟨rfl,hm⟩
 exact .inl ⟨b i,hB i hi,λ_=>⟨by omega,by omega⟩⟩;obtain⟨_,U,_,_,_,_,h7⟩:=y.map q hm;exact .inr ⟨U,ah q hm,λhx=>((y.fix q).1 hx).2 hm⟩;rcases ia U with⟨i,hi,rfl,rfl⟩|⟨rfl,hm⟩
 have:=m.inj _ _ _ h1 (hB i hi);exact⟨.inr ((ag r).2 ⟨i,hi,this⟩),by omega,by omega⟩;exact absurd h1 (ah q hm r);rcases ia O with⟨i,hi,rfl,rfl⟩|⟨rfl,hm⟩
 exact⟨by omega,by omega⟩;exact absurd hm ((y.fix q).1 hf).2;by_cases hm:M=some q;exact .inr ⟨11,ex,⟨rfl,hm,rfl⟩,(y.map q hm).2.2.1⟩;exact .inl ((y.fix q).2 ⟨Y,hm⟩)
open Go.RowKit
def vf(f:Func):Code:=match f.body with
 |some (.seq _ r)=>r|_=>.skip
def opsOf(f:Func):Array Oper:=match f.body with
 |some (.seq (.region _ o _) _)=>o|_=>#[]
theorem JL(a:Addr)(v:Value)(w:World)(h:w.cell? a=some v):(bH 167 (.pointer (some a)) >>= λv=>(pure (.value v):Sem Go.Next)).runT prog w #[]=(.ok (.value v) w,#[⟨.cell a,false,false⟩]):=by
 have y:∀w,(isAgg 167).runT prog w #[]=(.ok false w,#[]):=by intro w;kernel_rfl
 have O:(bH 167 (.pointer (some a)) >>= λv=>(pure (.value v):Sem Go.Next))=(isAgg 167 >>= λb=>((if b=true then(do pure (.agg (<-loadCells a (<-sizeOf 167))))else load a) >>= λv=>(pure (.value v)))):=by
  show(loadVar _ a >>= _)=_;unfold loadVar;rw[bind_assoc]
 rw[O];show((isAgg _).bind _).runT .. = _;rw[Sem.runT_bind',y];show(load a >>= λv=>(pure _)).runT .. = _;have U:(load a >>= λv=>(pure (.value v):Sem Go.Next))=.load _ a _:=rfl;rw[U];simp only[Sem.runT,h];rfl
theorem TX:zz prog 120 f120 6 167 (opsOf f120) (vf f120):=
 ⟨by kernel_rfl,by kernel_rfl,by decide,⟨_,_,_,_,rfl⟩,JL⟩
theorem TU:zz prog 116 f116 4 167 (opsOf f116) (vf f116):=
 ⟨by kernel_rfl,by kernel_rfl,by decide,⟨_,_,_,_,rfl⟩,JL⟩
theorem TI:jK (λo=>Ga prog tR Ct false o.op) (vf f120)=true:=by kernel_rfl
theorem Ur:jK (λo=>Ga prog tR Ct false o.op) (vf f116)=true:=by kernel_rfl
end
section
open Go.RowKit
theorem nV(i:Nat){P:Program}{ops:Array Oper}{md:Region.Mode}{Q:Exit->Act->World->Prop}{oi:Oper}{fuel:Nat}{listed:Array Bool}{C:World->Prop}{a:Act}
  (h:WX eV P md ops Q fuel (listed.setIfInBounds i true) C (a.put oi.dst bI)) (hi:ops[i]?=some oi:=by rfl) (y:aT ops=true:=by kernel_rfl) (O:aU md ops listed i=true:=by kernel_rfl) (U:(aP md ops listed).contains i=true:=by kernel_rfl) (hC:gH eV C:=by exact kp _)
  (W:aO oi (a5 ops a.tmps)=false:=by rfl):WX eV P md ops Q (fuel+1) listed C a:=
 Gq hi (aR y) fuel listed C a (aS hi O) (by simpa using U) hC (.inr ⟨W,rfl⟩) h
theorem LD(x y:Nat)(O:x<256)(U:y<256):bits .and .i64 (x:Int) (y:Int)=((x &&& y:Nat):Int):=by
 show IntKind.i64.wrap ((BitVec.ofInt 64 x &&& BitVec.ofInt 64 y).toNat)=_;rw[BitVec.toNat_and]
 have e:∀n:Nat,n<256->(BitVec.ofInt 64 n).toNat=n:=λn W=>by
  rw[BitVec.toNat_ofInt];omega
 rw[e x O,e y U];have Y:x &&& y<=x:=Nat.and_le_left;exact Kl _ _ rfl (by omega) (by omega)
theorem R5(m tg:Nat)(qb:ByteArray)(nm tx:ByteArray)(wt W:Int)(w:World)(hm:m<=3)(ai:tg<256)(am:0<=W)(ao:W<=255)(hq:qb.size<=1048576)(ht:tx.size<=1048576) :
  a9 prog 160 #[.agg #[.int .i64 m,.string qb,.int .i64 tg],.agg #[.string nm,.string tx,.int .i64 wt,.int .i64 W]] w λe w'=>e=.returned (.bool (lL tg W.toNat&&gD m qb.data.toList (dO tx.data.toList)))/\Below w.heap.size w w':=by
 obtain⟨w0,aa⟩:∃w0,((w.alloc (.cells #[.int .i64 m,.string qb,.int .i64 tg] 94)).alloc (.cells #[.string nm,.string tx,.int .i64 wt,.int .i64 W] 96))=w0:=⟨_,rfl⟩;have ac:Hid (Below w.heap.size w w0):=aa▸((b5 _ _).alloc (bz _) _).alloc (by simp) _;have q0:w0.heap[w.heap.size]?=some (.cells #[.int .i64 m,.string qb,.int .i64 tg] 94):=by rw[<-aa,b6 _ _ _ (by simp)];simp[bj,-bi]
 have q1:w0.heap[w.heap.size+1]?=some (.cells #[.string nm,.string tx,.int .i64 wt,.int .i64 W] 96):=by rw[<-aa];simp[bj,-bi,Array.getElem_push]
 have d0:=dh q0 0;have d1:=dh q0 1;have d2:=dh q0 2;have d3:=dh q1 3;have d4:=dh q1 1;simp at d0 d1 d2 d3 d4;clear q0 q1;have HW:Hid _:=aa;clear aa;go_enter func160,ntmps160;go_wp2_with fail;rw[HW.out];clear HW;obtain⟨fb,ad⟩:∃fb,fb=gD m qb.data.toList (dO tx.data.toList):=⟨_,rfl⟩;obtain⟨kb,ae⟩:∃kb:ByteArray,kb=⟨(dO tx.data.toList).toArray⟩:=⟨_,rfl⟩
 have ah:kb.size<=1048576:=by
  rw[ae];show(dO tx.data.toList).toArray.size<=_;rw[List.size_toArray,fx];simp;omega
 have aj:Hid (∀y:World,a9 prog 50 #[.string tx] y λe w'=>e=.returned (.string kb)/\eV y w'):=λy=>by rw[ae];exact oL tx y (by omega)
 have ak:Hid (∀y:World,a9 prog 215 #[.int .i64 m,.string qb,.string kb] y λe w'=>e=.returned (.bool fb)/\eV y w'):=λy=>by
  have h:=LY m qb kb y hm hq ah;have e1:kb.data.toList=dO tx.data.toList:=by rw[ae]
  rw[e1,<-ad]at h;exact h
 have U:=LD W.toNat tg (by omega) ai;rw[show((W.toNat:Nat):Int)=W by omega]at U;clear ae ah hm hq ht;by_cases Y:W.toNat &&& tg=tg
 .have al:bits .and .i64 W (tg:Int)=(tg:Int):=by rw[U,Y]
  have ab:Hid (fb=(lL tg W.toNat&&gD m qb.data.toList (dO tx.data.toList))):=by
   show _=_;unfold lL;rw[Y,<-ad];simp
  clear U Y ad;refine lY (by kernel_rfl) ?_;refine dG 0 ?_ ?_<|dG 1 ?_ ?_<|dG 2 ?_ ?_<|dG 3 ?_ ?_<|dG 4 ?_ ?_<|dG 5 ?_ ?_<|dG 6 ?_ ?_<|dG 7 ?_ ?_<|dG 8 ?_ ?_ ?_
  any_goals(intro y O;have q:=a4 O d3;have q1:=a4 O d2;unfold gm;go_simp;refine⟨eV.refl _,?_⟩;with_reducible rfl)
  go_simp;refine dG 9 ?_ ?_ ?_
  any_goals(intro y O;have q:=a4 O d0;have q1:=a4 O d1;have q2:=a4 O d4;unfold gm;go_simp;refine⟨eV.refl _,?_⟩;with_reducible rfl)
  go_simp;refine dG 10 ?_ ?_ ?_
  any_goals(intro y O;have q:=a4 O d0;have q1:=a4 O d1;have q2:=a4 O d4;unfold gm;go_simp;refine⟨eV.refl _,?_⟩;with_reducible rfl)
  go_simp;refine dG 11 ?_ ?_ ?_
  any_goals(intro y O;have q:=a4 O d0;have q1:=a4 O d1;have q2:=a4 O d4;unfold gm;go_simp;refine⟨eV.refl _,?_⟩;with_reducible rfl)
  go_simp;refine dG 12 ?_ ?_ ?_
  any_goals(intro y O;have q:=a4 O d0;have q1:=a4 O d1;have q2:=a4 O d4;unfold gm;go_simp;refine⟨eV.refl _,?_⟩;with_reducible rfl)
  go_simp;refine dG 13 ?_ ?_ ?_
  any_goals(intro y O;have q:=a4 O d0;have q1:=a4 O d1;have q2:=a4 O d4;unfold gm;go_simp;refine⟨eV.refl _,?_⟩;with_reducible rfl)
  go_simp;refine dG 14 ?_ ?_ ?_
  any_goals(intro y O;have q:=a4 O d0;have q1:=a4 O d1;have q2:=a4 O d4;unfold gm;go_simp;refine⟨eV.refl _,?_⟩;with_reducible rfl)
  go_simp;refine dG 15 ?_ ?_ ?_;rotate_left
  .intro y O;unfold gm;go_simp;refine⟨rfl,(aj.out y).mono ?_⟩;rintro e y2 ⟨rfl,h2⟩;refine⟨_,rfl,h2,?_⟩;with_reducible rfl
  go_simp;refine dG 16 ?_ ?_ ?_;rotate_left
  .intro y O;unfold gm;go_simp;refine⟨rfl,(ak.out y).mono ?_⟩;rintro e y2 ⟨rfl,h2⟩;refine⟨_,rfl,h2,?_⟩;with_reducible rfl
  go_simp;refine dG 17 ?_ ?_<|dG 18 ?_ ?_ ?_
  any_goals(intro y O;unfold gm;go_simp;refine⟨eV.refl _,?_⟩;with_reducible rfl)
  refine xC (by kernel_rfl) ?_ _;intro y O;have ag:Hid (Below w.heap.size w y):=ac.out.trans (Below.mono O ac.out.size);clear O;go_simp;go_wp2;go_ret;exact⟨dM ab.out,ag.out⟩
 obtain⟨an,af⟩:∃an:Nat,an=W.toNat &&& tg:=⟨_,rfl⟩;have al:bits .and .i64 W (tg:Int)=(an:Int):=by rw[U,af]
 have aq:((an:Int)==(tg:Int))=false:=by rw[beq_eq_false_iff_ne];rw[af];omega
 have ap:¬an=tg:=by rw[af];exact Y
 have ab:Hid (false=(lL tg W.toNat&&gD m qb.data.toList (dO tx.data.toList))):=by
  show _=_;unfold lL;rw[beq_eq_false_iff_ne.2 Y];rfl
 clear U Y ad af;refine lY (by kernel_rfl) ?_;refine dG 0 ?_ ?_<|dG 1 ?_ ?_<|dG 2 ?_ ?_<|dG 3 ?_ ?_<|dG 4 ?_ ?_<|dG 5 ?_ ?_<|dG 6 ?_ ?_<|dG 7 ?_ ?_<|dG 8 ?_ ?_ ?_
 any_goals(intro y O;have q:=a4 O d3;have q1:=a4 O d2;unfold gm;go_simp;refine⟨eV.refl _,?_⟩;with_reducible rfl)
 go_simp;refine nV 9 ?_;go_simp;refine nV 10 ?_;go_simp;refine nV 11 ?_;go_simp;refine nV 12 ?_;go_simp;refine nV 13 ?_;go_simp;refine nV 14 ?_;go_simp;refine nV 15 ?_;go_simp;refine nV 16 ?_;go_simp;refine dG 17 ?_ ?_<|dG 18 ?_ ?_ ?_
 any_goals(intro y O;unfold gm;go_simp;refine⟨eV.refl _,?_⟩;with_reducible rfl)
 refine xC (by kernel_rfl) ?_ _;intro y O;have ag:Hid (Below w.heap.size w y):=ac.out.trans (Below.mono O ac.out.size);clear O;go_simp;go_wp2;go_ret;exact⟨dM ab.out,ag.out⟩
theorem iF(w:World)(o:Obj){k:Nat}(h:k=w.heap.size):(w.alloc o).heap[k]?=some o:=by
 subst h;show(w.heap.push o)[w.heap.size]?=some o;simp
theorem fY(w:World)(o:Obj){k:Nat}(h:k<w.heap.size):(w.alloc o).heap[k]?=w.heap[k]?:=by
 exact b6 w o k h
def A2(k at':Int)(y:ByteArray)(b:Bool)(n2 tx:ByteArray)(wt O:Int):Value:=.agg #[.int .i64 k,.int .i64 at',.string y,.bool b,.string n2,.string tx,.int .i64 wt,.int .i64 O]
def NY:ByteArray:=⟨#[]⟩
theorem Gb(k at':Int)(nm:ByteArray)(g:Bool)(n2 tx:ByteArray)(wt et:Int)(m tg:Nat)(qb:ByteArray)(w:World)(hm:m<=3)(ac:tg<256)(ab:g=false->0<=et/\et<=255)(hq:qb.size<=1048576)(ht:tx.size<=1048576) :
  a9 prog 119 #[.agg #[.int .i64 k,.int .i64 at'],.string nm,.agg #[.bool g,.string n2,.string tx,.int .i64 wt,.int .i64 et],.agg #[.int .i64 m,.string qb,.int .i64 tg]] w λe w'=>
   e=.returned (if(!g&&(lL tg et.toNat&&gD m qb.data.toList (dO tx.data.toList)))=true then A2 k at' nm true n2 tx wt et else A2 k at' nm false NY NY 0 0)/\Below w.heap.size w w':=by
 obtain⟨b,hb⟩:∃b,b=(lL tg et.toNat&&gD m qb.data.toList (dO tx.data.toList)):=⟨_,rfl⟩
 have HC:Hid (g=false->∀y:World,a9 prog 160 #[.agg #[.int .i64 m,.string qb,.int .i64 tg],.agg #[.string n2,.string tx,.int .i64 wt,.int .i64 et]] y λe w'=>e=.returned (.bool b)/\Below y.heap.size y w'):=λhg y=>by
  rw[hb];exact R5 m tg qb n2 tx wt et y hm ac (ab hg).1 (ab hg).2 hq ht
 rw[<-hb];clear hb hm ac ab hq ht;obtain⟨w0,Y⟩:∃w0,w0=(((w.alloc (.cells #[.int .i64 k,.int .i64 at'] 170)).alloc (.cells #[.bool g,.string n2,.string tx,.int .i64 wt,.int .i64 et] 111)).alloc (.cells #[.int .i64 m,.string qb,.int .i64 tg] 94)).alloc (.cells #[.int .i64 0,.int .i64 0,.string ⟨#[]⟩,.bool false,.string ⟨#[]⟩,.string ⟨#[]⟩,.int .i64 0,.int .i64 0] 172):=⟨_,rfl⟩;have hz:w0.heap.size=w.heap.size+4:=by rw[Y];simp
 have hB:Below w.heap.size w w0:=by rw[Y];exact((((b5 _ _).alloc (bz _) _).alloc (by simp) _).alloc (by simp;omega) _).alloc (by simp;omega) _
 have g0:w0.heap[w.heap.size]?=some (.cells #[.int .i64 k,.int .i64 at'] 170 (0,0)):=by rw[Y];(repeat(first|(rw[iF _ _ (by simp only[bg])];done)|rw[fY _ _ (by simp only[bg];omega)]))
 have g1:w0.heap[w.heap.size+1]?=some (.cells #[.bool g,.string n2,.string tx,.int .i64 wt,.int .i64 et] 111 (0,0)):=by rw[Y];(repeat(first|(rw[iF _ _ (by simp only[bg])];done)|rw[fY _ _ (by simp only[bg];omega)]))
 have g2:w0.heap[w.heap.size+1+1]?=some (.cells #[.int .i64 m,.string qb,.int .i64 tg] 94 (0,0)):=by rw[Y];(repeat(first|(rw[iF _ _ (by simp only[bg])];done)|rw[fY _ _ (by simp only[bg];omega)]))
 have g3:w0.heap[w.heap.size+1+1+1]?=some (.cells #[.int .i64 0,.int .i64 0,.string ⟨#[]⟩,.bool false,.string ⟨#[]⟩,.string ⟨#[]⟩,.int .i64 0,.int .i64 0] 172 (0,0)):=by rw[Y];(repeat(first|(rw[iF _ _ (by simp only[bg])];done)|rw[fY _ _ (by simp only[bg];omega)]))
 go_enter func119,ntmps119;go_upto_region 1 with fail;rw[<-Y];obtain⟨B0,ad⟩:∃B,B=w.heap.size:=⟨_,rfl⟩;obtain⟨W,ae⟩:∃B,B=w.heap.size+1+1+1:=⟨_,rfl⟩;obtain⟨B2,af⟩:∃B,B=w.heap.size+1+1:=⟨_,rfl⟩;obtain⟨B1,ag⟩:∃B,B=w.heap.size+1:=⟨_,rfl⟩;rw[<-ae]at g3⊢;rw[<-af]at g2⊢;rw[<-ag]at g1⊢;rw[<-ad]at g0⊢;have HB:Hid (Below _ _ _):=hB;have HN:Hid (B0<w0.heap.size/\B1<w0.heap.size/\B2<w0.heap.size/\W<w0.heap.size/\w.heap.size<=W):=⟨by omega,by omega,by omega,by omega,by omega⟩;clear Y hB ad ag af ae hz;cases g
 .have c0:w0.cell? ⟨B1,0,none⟩=some (.bool false):=by rw[dh g1];rfl
  have c1:w0.cell? ⟨B1,1,none⟩=some (.string n2):=by rw[dh g1];rfl
  have c2:w0.cell? ⟨B1,2,none⟩=some (.string tx):=by rw[dh g1];rfl
  have c3:w0.cell? ⟨B1,3,none⟩=some (.int .i64 wt):=by rw[dh g1];rfl
  have c4:w0.cell? ⟨B1,4,none⟩=some (.int .i64 et):=by rw[dh g1];rfl
  have c5:w0.cell? ⟨B2,0,none⟩=some (.int .i64 m):=by rw[dh g2];rfl
  have c6:w0.cell? ⟨B2,1,none⟩=some (.string qb):=by rw[dh g2];rfl
  have c7:w0.cell? ⟨B2,2,none⟩=some (.int .i64 tg):=by rw[dh g2];rfl
  go_upto_if 17 with(go_at_call 160;refine(HC.out rfl _).mono ?_;rintro e y ⟨rfl,hy⟩);have ah:=(hy.block B0 HN.out.1).trans g0;have aa:=(hy.block B1 HN.out.2.1).trans g1;have U:=(hy.block W HN.out.2.2.2.1).trans g3;have HY:Hid (Below w.heap.size w y):=HB.out.trans (Below.mono hy HB.out.size);clear c0 c1 c2 c3 c4 c5 c6 c7 hy HC g0 g1 g2 g3 HB;have c0:y.cell? ⟨B0,0,none⟩=some (.int .i64 k):=by rw[dh ah];rfl
  have c1:y.cell? ⟨B0,1,none⟩=some (.int .i64 at'):=by rw[dh ah];rfl
  have c2:y.cell? ⟨B1,1,none⟩=some (.string n2):=by rw[dh aa];rfl
  have c3:y.cell? ⟨B1,2,none⟩=some (.string tx):=by rw[dh aa];rfl
  have c4:y.cell? ⟨B1,3,none⟩=some (.int .i64 wt):=by rw[dh aa];rfl
  have c5:y.cell? ⟨B1,4,none⟩=some (.int .i64 et):=by rw[dh aa];rfl
  have ai:=dI U;have jP:=dh U;have e0:y.cell? ⟨W,0,none⟩=some (.int .i64 0):=by rw[dh U];rfl
  have e1:y.cell? ⟨W,1,none⟩=some (.int .i64 0):=by rw[dh U];rfl
  have e2:y.cell? ⟨W,2,none⟩=some (.string ⟨#[]⟩):=by rw[dh U];rfl
  have e3:y.cell? ⟨W,3,none⟩=some (.bool false):=by rw[dh U];rfl
  have e4:y.cell? ⟨W,4,none⟩=some (.string ⟨#[]⟩):=by rw[dh U];rfl
  have e5:y.cell? ⟨W,5,none⟩=some (.string ⟨#[]⟩):=by rw[dh U];rfl
  have e6:y.cell? ⟨W,6,none⟩=some (.int .i64 0):=by rw[dh U];rfl
  have e7:y.cell? ⟨W,7,none⟩=some (.int .i64 0):=by rw[dh U];rfl
  have O:=HN.out.2.2.2.2;cases b
  .go_wp2;refine aJ (v:=A2 k at' nm false NY NY 0 0) (by simp[aL,results119,go_sem,e0,e1,e2,e3,e4,e5,e6,e7,A2,NY]) rfl ⟨rfl,((((((((HY.out.setCell O _).setCell O _).setCell O _).setCell O _).setCell O _).setCell O _).setCell O _).setCell O _)⟩
  go_wp2;refine aJ (v:=A2 k at' nm true n2 tx wt et) (by simp[aL,results119,go_sem,e0,e1,e2,e3,e4,e5,e6,e7,A2,NY]) rfl ⟨rfl,((((((((HY.out.setCell O _).setCell O _).setCell O _).setCell O _).setCell O _).setCell O _).setCell O _).setCell O _)⟩
 have c0:w0.cell? ⟨B0,0,none⟩=some (.int .i64 k):=by rw[dh g0];rfl
 have c1:w0.cell? ⟨B0,1,none⟩=some (.int .i64 at'):=by rw[dh g0];rfl
 have c2:w0.cell? ⟨B1,0,none⟩=some (.bool true):=by rw[dh g1];rfl
 have ai:=dI g3;have jP:=dh g3;have e0:w0.cell? ⟨W,0,none⟩=some (.int .i64 0):=by rw[dh g3];rfl
 have e1:w0.cell? ⟨W,1,none⟩=some (.int .i64 0):=by rw[dh g3];rfl
 have e2:w0.cell? ⟨W,2,none⟩=some (.string ⟨#[]⟩):=by rw[dh g3];rfl
 have e3:w0.cell? ⟨W,3,none⟩=some (.bool false):=by rw[dh g3];rfl
 have e4:w0.cell? ⟨W,4,none⟩=some (.string ⟨#[]⟩):=by rw[dh g3];rfl
 have e5:w0.cell? ⟨W,5,none⟩=some (.string ⟨#[]⟩):=by rw[dh g3];rfl
 have e6:w0.cell? ⟨W,6,none⟩=some (.int .i64 0):=by rw[dh g3];rfl
 have e7:w0.cell? ⟨W,7,none⟩=some (.int .i64 0):=by rw[dh g3];rfl
 have O:=HN.out.2.2.2.2;clear HC;go_wp2;refine aJ (v:=A2 k at' nm false NY NY 0 0) (by simp[aL,results119,go_sem,e0,e1,e2,e3,e4,e5,e6,e7,A2,NY]) rfl ⟨rfl,((((((((HB.out.setCell O _).setCell O _).setCell O _).setCell O _).setCell O _).setCell O _).setCell O _).setCell O _)⟩
end
section
open Go.Conc
def oR:Item->Item
 |.code y=>.code (Bp y)|.inLoop y=>.inLoop (Bp y)|x=>x
def kz:Item->Bool
 |.code _|.inLoop _|.inBlock _=>true|_=>false
theorem Nl{m:Ren}:∀{k:List Item},k.all kz=true->dQ (jw m) (k.map oR) k
 |[],_=>.nil|x::k,h=>by
  simp only[bs,bo]at h;refine .cons ?_ (Nl h.2);cases x<;>first|exact .GC _|exact .mg _|exact .inBlock _|(simp[kz]at h)
theorem EC{m:Ren}:∀{k k':List Item},k.all kz=true->dQ (jw m) (k.map oR) k'->k'=k
 |[],_,_,h=>by cases h;rfl
 |x::k,_,W,h=>by
  simp only[bs,bo]at W
  cases h with
  |cons hi Y=>
   rw[EC W.2 Y]
   cases x with
   |code y=>
    simp only[oR]at hi;generalize O:Item.code _=z at hi
    cases hi with
    |GC y'=>simp only[Bp,Item.code.injEq,Code.cond.injEq]at O;rw[O.2.1]|code c U=>simp only[Item.code.injEq]at O;rw[<-O]at U;exact U.1.elim|_=>cases O
   |inLoop y=>
    simp only[oR]at hi;generalize O:Item.inLoop _=z at hi
    cases hi with
    |mg y'=>simp only[Bp,Item.inLoop.injEq,Code.cond.injEq]at O;rw[O.2.1]|inLoop c U=>simp only[Item.inLoop.injEq]at O;rw[<-O]at U;exact U.1.elim|_=>cases O
   |inBlock i=>
    cases hi;rfl
   |_=>simp[kz]at W
theorem qN(id:Nat):∀(k:List Item),aI id (k.map oR)=(aI id k).map (·.map oR)
 |[]=>rfl|x::k=>by
  cases x with
  |inBlock i=>
   simp only[List.map_cons,oR];unfold aI;split;rfl;exact qN id k
  |_=>exact qN id k
theorem exitTo_plain{id:Nat}:∀{k k':List Item},k.all kz=true->aI id k=some k'->k'.all kz=true
 |[],_,_,e=>by cases e
 |x::k,k',y,e=>by
  simp only[bs,bo]at y
  cases x with
  |inBlock i=>
   unfold aI at e;split at e
   cases e;exact y.2;exact exitTo_plain y.2 e
  |_=>exact exitTo_plain y.2 e
section
variable {P:Program} {E:Env P} {fn:a8} {tm:Array Value} {os:List OF} {wl:World} {V:List (Nat×Option (List Value))} {k:List Item}
theorem iT.Sr{S:LS}(hk:k.all kz=true)(hf:vd E os)(Y:S.cs=[door P])(aa:S.fr=fN fn tm (k.map oR))(h:dl E (⟨fn,tm,k⟩::os) S.w V):iT E S os V:=by
 intro m Pd ρ gs w sl t fr' cs' Tc ab ac ad y O h0;have hF:=O.qc;rw[Y]at O;have U:=tL hf y
 obtain⟨rfl,W⟩:cs'=Tc/\fr'.kind=.normal:=by
  cases O with
  |one _ _ hb _=>
   refine⟨rfl,?_⟩;rcases hb with⟨x,_⟩|⟨_,ps,e,x⟩
   exact x;exact absurd x (U ps e)
  |cons _ _ _ hx=>cases hx
 rw[aa]at hF;obtain⟨f1,f2,f3,f4,f5,f6⟩:=hF;obtain⟨ae,af,ag,ah,ai,aj,ak⟩:=fr';have:=EC hk f3;subst this f1 W;cases f4;cases f5;cases f6;exact h m Pd ρ gs w sl t _ _ ab ac ad (.cons (o:=⟨_,tm,_⟩) f2 y) h0
theorem dl.code{c:Code}{Q:Exit->Act->World->Prop}(af:fF E.ok c)(hk:k.all kz=true)(hf:vd E os)(h:∀τ,A8 τ wl->c.wp P Q ⟨tm,[]⟩ (tp wl τ))
  (hn:∀e a w',Q e a w'->a.defers=[]/\∃k',((e=.normal/\k'=k)\/∃id,e=.exit id/\aI id k=some k')/\dl E (⟨fn,a.tmps,k'⟩::os) w' V):dl E (⟨fn,tm,.code c::k⟩::os) wl V:=by
 have hS:iT E ⟨fN fn tm (.code c::k.map oR),[door P],wl⟩ os V:=by
  let U:LS->Prop:=λS=>S.cs=[door P]/\∃W k',k'.all kz=true/\S.fr=fN fn W (k'.map oR)/\dl E (⟨fn,W,k'⟩::os) S.w V;refine iT.nu (Stop:=λS=>∃τ,U (S.on τ)) (λS τ ⟨y,h⟩=>⟨y,h⟩) (λy ab=>?_) λS' ⟨y,hc,W,k',h1,h2,h3⟩=>?_;obtain⟨e,a,w',hq,O⟩:=h y ab (fN fn #[] []) (k.map oR) [door P];obtain⟨hd,k',ag,hW⟩:=hn e a w' hq;obtain⟨Y,al⟩:=a;subst hd
  have aa:Steps P (aM (fN fn tm (.code c::k.map oR)) [door P] (tp wl y)) (aM (fN fn Y (k'.map oR)) [door P] w')/\k'.all kz=true:=by
   rcases ag with⟨rfl,rfl⟩|⟨id,rfl,he⟩
   exact⟨O,hk⟩;exact⟨O _ (by rw[qN,he];rfl),exitTo_plain hk he⟩
  obtain⟨⟨n,aa⟩,ah⟩:=aa;exact⟨n,⟨fN fn Y _,[door P],w'⟩,aa,⟨w'.tape,rfl,Y,k',ah,rfl,hW⟩,by simp⟩;exact iT.tape (τ:=y) (iT.Sr h1 hf hc h2 h3)
 intro m Pd ρ gs w sl t fr' cs' ac ai aj ad h0;obtain⟨ak,l',e,ht,ae⟩:=ad.head;cases e;exact hS m Pd ρ gs w sl t _ _ cs' ac ai aj ae (dR.one (fr:=fN fn tm _) (fr':=fN fn ak _) ⟨rfl,ht,.cons (.code c (by rw[ac.Si];exact af)) (Nl hk),.nil,.run,.none⟩ rfl (.inl ⟨rfl,tL hf ae⟩) rfl) h0
end
end
namespace D
open Go.RowKit Go.Sort
theorem NA{w y:World}(h:eV w y):∃q os,y=grow (w.drewN q) os:=by
 obtain⟨⟨O,U,W,h4,Y⟩,h6⟩:=h;refine⟨y.drawn-w.drawn,y.heap.extract w.heap.size y.heap.size,?_⟩;obtain⟨yh,yt,yd,yo,yu⟩:=y;obtain⟨wh,wt,wd,wo,wu⟩:=w;simp only at O U W h4 Y h6;subst O U W;unfold grow World.drewN;simp only[World.mk.injEq,and_true,true_and];constructor;apply be;intro i;by_cases hi:i<wh.size;rw[ba hi];exact Y i hi;rw[Array.getElem?_append_right (by omega),Array.getElem?_extract];by_cases h:i<yh.size;rw[if_pos (by omega)];congr 1;omega;rw[if_neg (by omega)];exact aX (by omega);omega
def DH(x y:Int):Int:=if x<y then -1 else if y<x then 1 else 0
theorem Im(x y:Int)(w:World):a9 prog 127 #[.int .i64 x,.int .i64 y] w λe w'=>e=.returned (.int .i64 (DH x y))/\w=w':=by
 unfold DH;by_cases O:x<y
 .go_wp2;go_ret;exact⟨rfl,rfl⟩
 by_cases U:y<x
 .go_wp2;go_ret;exact⟨rfl,rfl⟩
 go_wp2;go_ret;exact⟨rfl,rfl⟩
theorem QZ(x y z:Int)(g:Nat)(w:World)(h0:w.cell? ⟨g,0,none⟩=some (.int .i64 x))(h1:w.cell? ⟨g,1,none⟩=some (.int .i64 y))(h2:w.cell? ⟨g,2,none⟩=some (.int .i64 z)):a9 prog 126 #[.slice (some ⟨g,0,none⟩) 3 3] w λe w'=>e=.returned (.int .i64 (if x≠0 then x else if y≠0 then y else z))/\w=w':=by
 by_cases O:x=0
 .subst O;rw[if_neg (by simp)];by_cases U:y=0
  .subst U;rw[if_neg (by simp)];by_cases W:z=0
   .subst W;go_enter func126,ntmps126;go_wp2;refine aA 4 ?_;rw[a6];go_wp2;rw[a6];go_wp2;rw[a6];go_wp2;rw[a6];go_wp2;go_ret;exact⟨rfl,rfl⟩
   have Y:(z==0)=false:=by simpa using W
   go_enter func126,ntmps126;go_wp2;refine aA 3 ?_;rw[a6];go_wp2;rw[a6];go_wp2;rw[a6];go_wp2;go_ret;exact⟨rfl,rfl⟩
  have aa:(y==0)=false:=by simpa using U
  rw[if_pos U];go_enter func126,ntmps126;go_wp2;refine aA 2 ?_;rw[a6];go_wp2;rw[a6];go_wp2;go_ret;exact⟨rfl,rfl⟩
 rw[if_pos O];have ab:(x==0)=false:=by simpa using O
 go_enter func126,ntmps126;go_wp2;refine aA 1 ?_;rw[a6];go_wp2;go_ret;exact⟨rfl,rfl⟩
theorem TE{w:World}{x y z:Value}{t:aC}{g:Nat}(O:g=w.heap.size):((w.alloc (.cells #[x,y,z] t)).cell? ⟨g,0,none⟩=some x/\(w.alloc (.cells #[x,y,z] t)).cell? ⟨g,1,none⟩=some y)/\(w.alloc (.cells #[x,y,z] t)).cell? ⟨g,2,none⟩=some z:=by
 subst O;refine⟨⟨?_,?_⟩,?_⟩<;>rw[bh _ _ _ _ rfl]<;>rfl
def TH(x y:dq):Int:=if DH y.dp x.dp≠0 then DH y.dp x.dp else if rT (dE x) (dE y)≠0 then rT (dE x) (dE y)else rT x.name y.name
theorem El(x y:dq)(w:World)(hx:x.text.length<=1048576)(O:y.text.length<=1048576):a9 prog 84 #[.agg #[.string ⟨x.name.toArray⟩,.string ⟨x.text.toArray⟩,.int .i64 x.dp,.int .i64 x.dA],.agg #[.string ⟨y.name.toArray⟩,.string ⟨y.text.toArray⟩,.int .i64 y.dp,.int .i64 y.dA]] w λe w'=>e=.returned (.int .i64 (TH x y))/\eV w w':=by
 obtain⟨z1,ab⟩:∃z,z=DH y.dp x.dp:=⟨_,rfl⟩;obtain⟨z2,ac⟩:∃z,z=rT (dE x) (dE y):=⟨_,rfl⟩;obtain⟨z3,ad⟩:∃z,z=rT x.name y.name:=⟨_,rfl⟩;obtain⟨wT,U⟩:∃wT,wT=if z1≠0 then z1 else if z2≠0 then z2 else z3:=⟨_,rfl⟩
 have e:TH x y=wT:=by rw[U,ab,ac,ad];rfl
 rw[e];clear e;obtain⟨kx,ae⟩:∃k,k=dE x:=⟨_,rfl⟩;obtain⟨ky,af⟩:∃k,k=dE y:=⟨_,rfl⟩;have H1:Hid (∀W,a9 prog 127 #[.int .i64 y.dp,.int .i64 x.dp] W λe w'=>e=.returned (.int .i64 z1)/\W=w'):=λW=>by rw[ab];exact Im _ _ W
 have H2:Hid (∀W,a9 prog 128 #[.string ⟨kx.toArray⟩,.string ⟨ky.toArray⟩] W λe w'=>e=.returned (.int .i64 z2)/\W=w'):=λW=>by rw[ac,<-ae,<-af];exact qa _ _ W
 have H3:Hid (∀W,a9 prog 128 #[.string ⟨x.name.toArray⟩,.string ⟨y.name.toArray⟩] W λe w'=>e=.returned (.int .i64 z3)/\W=w'):=λW=>by rw[ad];exact qa _ _ W
 have HX:Hid (∀W,a9 prog 50 #[.string ⟨x.text.toArray⟩] W λe w'=>e=.returned (.string ⟨kx.toArray⟩)/\eV W w'):=λW=>by
  have h:=sO ⟨x.text.toArray⟩ W (by show x.text.toArray.size<=_;simp;omega);rw[ae];exact h
 have HY:Hid (∀W,a9 prog 50 #[.string ⟨y.text.toArray⟩] W λe w'=>e=.returned (.string ⟨ky.toArray⟩)/\eV W w'):=λW=>by
  have h:=sO ⟨y.text.toArray⟩ W (by show y.text.toArray.size<=_;simp;omega);rw[af];exact h
 have HO:Hid (∀(g:Nat)(W:World),W.cell? ⟨g,0,none⟩=some (.int .i64 z1)->W.cell? ⟨g,1,none⟩=some (.int .i64 z2)->W.cell? ⟨g,2,none⟩=some (.int .i64 z3)->a9 prog 126 #[.slice (some ⟨g,0,none⟩) 3 3] W λe w'=>e=.returned (.int .i64 wT)/\W=w'):=λg W k0 k1 k2=>by
  rw[U];exact QZ z1 z2 z3 g W k0 k1 k2
 clear U ab ac ad ae af hx O;obtain⟨nx,_,tx,wx,gx⟩:=x;obtain⟨ny,_,ty,wy,gy⟩:=y;simp only at H1 H3 HX HY⊢;obtain⟨w0,Y⟩:∃w0,w0=(w.alloc (.cells #[.string ⟨nx.toArray⟩,.string ⟨tx.toArray⟩,.int .i64 wx,.int .i64 gx] 96)).alloc (.cells #[.string ⟨ny.toArray⟩,.string ⟨ty.toArray⟩,.int .i64 wy,.int .i64 gy] 96):=⟨_,rfl⟩
 have hA:∀j,w0.cell? ⟨w.heap.size,j,none⟩=(#[Value.string ⟨nx.toArray⟩,.string ⟨tx.toArray⟩,.int .i64 wx,.int .i64 gx]:Array Value)[j]?:=λj=>by
  rw[Y,World.cell?_alloc_past _ _ _ (by simp),bh _ _ _ _ rfl]
 have aa:∀j,w0.cell? ⟨w.heap.size+1,j,none⟩=(#[Value.string ⟨ny.toArray⟩,.string ⟨ty.toArray⟩,.int .i64 wy,.int .i64 gy]:Array Value)[j]?:=λj=>by
  rw[Y,bh _ _ _ _ (by simp)]
 have ag:Hid (eV w w0):=by rw[Y];exact(eV.alloc _ _).trans (eV.alloc _ _)
 have a0:w0.cell? ⟨w.heap.size,0,none⟩=some (.string ⟨nx.toArray⟩):=hA 0;have a1:w0.cell? ⟨w.heap.size,1,none⟩=some (.string ⟨tx.toArray⟩):=hA 1;have a2:w0.cell? ⟨w.heap.size,2,none⟩=some (.int .i64 wx):=hA 2;have b0:w0.cell? ⟨w.heap.size+1,0,none⟩=some (.string ⟨ny.toArray⟩):=aa 0;have b1:w0.cell? ⟨w.heap.size+1,1,none⟩=some (.string ⟨ty.toArray⟩):=aa 1;have b2:w0.cell? ⟨w.heap.size+1,2,none⟩=some (.int .i64 wy):=aa 2;clear hA aa;go_enter func84,ntmps84;go_wp2_with fail;rw[<-Y];clear Y;refine lY (by kernel_rfl) ?_;refine dG 0 ?_ ?_<|dG 1 ?_ ?_<|dG 2 ?_ ?_<|dG 3 ?_ ?_ ?_
 any_goals(intro y O;have q:=a4 O.1 b2;have q1:=a4 O.1 a2;unfold gm;go_simp;refine⟨eV.refl _,?_⟩;with_reducible rfl)
 go_simp;refine dG 4 ?_ ?_ ?_;rotate_left
 .intro y O;unfold gm;go_simp;refine⟨rfl,(H1.out y).mono ?_⟩;rintro e y2 ⟨rfl,rfl⟩;refine⟨_,rfl,eV.refl _,?_⟩;with_reducible rfl
 refine dG 5 ?_ ?_<|dG 6 ?_ ?_ ?_
 any_goals(intro y O;have q:=a4 O.1 a1;unfold gm;go_simp;refine⟨eV.refl _,?_⟩;with_reducible rfl)
 go_simp;refine dG 7 ?_ ?_ ?_;rotate_left
 .intro y O;unfold gm;go_simp;refine⟨rfl,(HX.out y).mono ?_⟩;rintro e y2 ⟨rfl,h2⟩;refine⟨_,rfl,h2,?_⟩;with_reducible rfl
 refine dG 8 ?_ ?_<|dG 9 ?_ ?_ ?_
 any_goals(intro y O;have q:=a4 O.1 b1;unfold gm;go_simp;refine⟨eV.refl _,?_⟩;with_reducible rfl)
 go_simp;refine dG 10 ?_ ?_ ?_;rotate_left
 .intro y O;unfold gm;go_simp;refine⟨rfl,(HY.out y).mono ?_⟩;rintro e y2 ⟨rfl,h2⟩;refine⟨_,rfl,h2,?_⟩;with_reducible rfl
 go_simp;refine dG 11 ?_ ?_ ?_;rotate_left
 .intro y O;unfold gm;go_simp;refine⟨rfl,(H2.out y).mono ?_⟩;rintro e y2 ⟨rfl,rfl⟩;refine⟨_,rfl,eV.refl _,?_⟩;with_reducible rfl
 refine dG 12 ?_ ?_<|dG 13 ?_ ?_<|dG 14 ?_ ?_<|dG 15 ?_ ?_ ?_
 any_goals(intro y O;have q:=a4 O.1 a0;have q1:=a4 O.1 b0;unfold gm;go_simp;refine⟨eV.refl _,?_⟩;with_reducible rfl)
 go_simp;refine dG 16 ?_ ?_ ?_;rotate_left
 .intro y O;unfold gm;go_simp;refine⟨rfl,(H3.out y).mono ?_⟩;rintro e y2 ⟨rfl,rfl⟩;refine⟨_,rfl,eV.refl _,?_⟩;with_reducible rfl
 go_simp;refine SL (rs:=[17]) (by kernel_rfl) (by simp) ?_;intro i hi;simp only[List.mem_singleton]at hi;subst hi;refine Qt (λg=>.slice (some ⟨g,0,none⟩) 3 3) (λg y=>(y.cell? ⟨g,0,none⟩=some (.int .i64 z1)/\y.cell? ⟨g,1,none⟩=some (.int .i64 z2))/\y.cell? ⟨g,2,none⟩=some (.int .i64 z3)) rfl (kp _) (λg=>((gp _ _).and (gp _ _)).and (gp _ _)) (by rfl) ?_ ?_
 .intro y O;unfold gm;go_simp;exact⟨eV.alloc _ _,rfl,TE rfl⟩
 intro g;go_simp;refine dG 18 ?_ ?_ ?_ (hC:=((kp _).and (((gp _ _).and (gp _ _)).and (gp _ _))));rotate_left
 .intro y O;obtain⟨_,⟨k0,k1⟩,k2⟩:=O;unfold gm;go_simp;refine⟨rfl,(HO.out _ y k0 k1 k2).mono ?_⟩;rintro e y2 ⟨rfl,rfl⟩;refine⟨_,rfl,eV.refl _,?_⟩;with_reducible rfl
 go_simp;refine dG 19 ?_ ?_ ?_ (hC:=((kp _).and (((gp _ _).and (gp _ _)).and (gp _ _))));rotate_left
 .intro y O;unfold gm;go_simp;refine⟨eV.refl _,?_⟩;with_reducible rfl
 refine xC (by kernel_rfl) ?_ _;rintro y ⟨O,_⟩;have ah:Hid (eV w y):=eV.trans ag.out O;clear O;go_simp;go_wp2;go_ret;exact⟨rfl,ah.out⟩
end D
end Go.Proofs.YtocbogeoffeolaaGreatDoor
