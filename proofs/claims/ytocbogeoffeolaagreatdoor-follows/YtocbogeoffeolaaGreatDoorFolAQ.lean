import Derived.Test.YtocbogeoffeolaaGreatDoorFolAA
import Derived.Test.YtocbogeoffeolaaGreatDoorFolAP
import Derived.OrdersHeld
set_option linter.unusedVariables false
set_option linter.unusedSimpArgs false
set_option maxHeartbeats 8000000
set_option maxRecDepth 1000000
open Go.Region renaming ready->ay,wanted->az,binds->a2,noSelect_spec->a3,free_spec->a4,noSelect->a5,free->a6,schedule->a7
open Go renaming yielded->a8,execOp->a9,ready_mono->aA,wanted_put->aB,execOp_put->aC,getD_set_ne->aD,exitTo->aE,FuncId->aF,stepG->aG,step_lone_go->aH,lone->aI,seen->aJ,Calls->aK,wp_region_any->aL,callDeferred->aM,TypeId->aN
open Array renaming replicate->aO,getElem?_eq_none->aP,getElem?_eq_some_iff->aQ,setIfInBounds_comm->aR,getD_eq_getD_getElem?->aS,mem_toList_iff->aT,empty_append->aU
open Go.stepG renaming apply->aV,exec->aW,oper->aX
open Bool renaming false_eq_true->aY,and_eq_true->aZ,true_or->ba
open Go.Region.linearise renaming go->bb
open Nat renaming le_refl->bc,lt_or_ge->bd,zero_le->be,le_succ->bf
open List renaming all_cons->bg,not_mem_nil->bh,all_eq_true->bi,mem_filter->bj,mem_cons->bk,map_cons->bl,mem_map->bm,range->bn
open Go.Frame renaming enter->bo,finish_at->bp,finish->bq,oper?->br,eval->bs
open Go.RowKit.Below renaming refl->bt,trans->bu,block->bv,size->bw,mono->bx
open Go.World renaming block_lt_of_cell?->bz,cell?_of_block->b0,setCell->b1
open Go.GStep renaming after->b2
open Option renaming getD_some->b3,bind_some->b4,map_some->b5
open Go.Oper renaming apart_spec->b6,upon->b7,wp->b8
open Go renaming undef->b9
namespace Go.Proofs.YtocbogeoffeolaaGreatDoor
open Go.Proofs.Tryz
section
open Go.RowKit
variable {K:(World->Prop)->Act->Prop} {a:Act} {listed:Array Bool} {fuel i:Nat} {o oi:Oper} {v:Value} {w:World} {C:World->Prop}
def kC(y h:World):Prop:=Below y.heap.size y h
theorem kC.refl(y:World):kC y y:=bt _ _
theorem kC.trans{a b c:World}(h:kC a b)(y:kC b c):kC a c:=bu h (bx y (bw h))
theorem kC.alloc(y:World)(o:Obj):kC y (y.alloc o):=(bt _ _).alloc (bc _) o
def iZ(C:World->Prop):Prop:=∀y h,C y->kC y h->C h
theorem j5(w:World):iZ (kC w):=λ_ _ h y=>h.trans y
theorem iZ.and{D:World->Prop}(h:iZ C)(W:iZ D):iZ (λy=>C y/\D y):=λy B O U=>⟨h y B O.1 U,W y B O.2 U⟩
section
variable {P:Program} {ops:Array Oper} {md:Region.Mode} {Q:Exit->Act->World->Prop}
def ik(P:Program)(w:World)(B:Value->World->Prop):Result Go.Next->Prop
 |.ok (.value u) w'=>B u w'
 |.ok .skip w'=>B b9 w'
 |.ok (.enter f args) w'=>w'=w/\aK P f args w (λe h=>∃v,e=.returned v/\B v h)
 |_=>False
def jh(P:Program)(o:Oper)(a:Act)(w:World)(B:Value->World->Prop):Prop:=ik P w B ((a9 a.eval o).run P w)
theorem ik.mono{B y:Value->World->Prop}(h:∀v w,B v w->y v w):∀{r:Result Go.Next},ik P w B r->ik P w y r:=by
 intro r hh
 cases r with
 |ok n w'=>
  cases n<;>simp only[ik]at hh⊢
  case value u=>exact h _ _ hh
  case skip=>exact h _ _ hh
  case enter f args=>exact⟨hh.1,hh.2.mono λe w'' ⟨v,he,hb⟩=>⟨v,he,h _ _ hb⟩⟩
 |halt x w'=>simp only[ik]at hh
def vV(P:Program)(ops:Array Oper)(i:Nat)(C:World->Prop)(K:(World->Prop)->Act->Prop)(a:Act):Prop:=
 match ops[i]? with
 |none=>K C a
 |some o=>if az o (a8 ops a.tmps)=true then
   ∃(X:Type)(h:X->World->Prop)(B:X->Value),(∀x,iZ (h x))/\(∀x y,h x y->C y)/\(∀y,C y->jh P o a y (λv D=>kC y D/\∃x,v=B x/\h x D))/\∀x,K (h x) (a.put o.dst (B x))
  else K C (a.put o.dst b9)
theorem A5{K':(World->Prop)->Act->Prop}(h:∀C a,K C a->K' C a)(y:vV P ops i C K a):vV P ops i C K' a:=by
 unfold vV at *;split
 .rename_i B; simp only[B]at y; exact h _ _ y
 .rename_i o B;simp only[B]at y;split
  .rename_i D;simp only[D,if_true]at y;obtain⟨X,O,U,W,Y,h3,h4⟩:=y;exact⟨X,O,U,W,Y,h3,λx=>h _ _ (h4 x)⟩
  .rename_i D; simp only[D]at y; exact h _ _ y
def WX(P:Program)(md:Region.Mode)(ops:Array Oper)(Q:Exit->Act->World->Prop):Nat->Array Bool->(World->Prop)->Act->Prop
 |0,listed,C,a=>ay md ops listed=[]/\∀y,C y->Q .normal a y
 |fuel+1,listed,C,a=>
  (ay md ops listed=[]->∀y,C y->Q .normal a y)/\
  ∀i∈ay md ops listed,vV P ops i C (λh B=>WX P md ops Q fuel (listed.setIfInBounds i true) h B) a
theorem sS{K':Act->World->Prop}(hC:C w)(h:∀C a w,C w->K C a->K' a w)(hh:vV P ops i C K a):wpOp P ops Q i K' a w:=by
 unfold vV at hh;unfold wpOp;split
 .rename_i B; simp only[B]at hh; exact h _ _ _ hC hh
 .rename_i o B;simp only[B]at hh;split
  .rename_i D;simp only[D,if_true]at hh;obtain⟨X,Cx,vx,_,_,U,O⟩:=hh;have h5:=U w hC;refine .inl ?_;unfold jh at h5;unfold b8;generalize (a9 a.eval o).run P w=r at *
   cases r with
   |ok n w'=>
    cases n<;>simp only[ik]at h5<;>simp only[b7]
    case value u=>
     obtain⟨_,x,rfl,y⟩:=h5;exact h _ _ _ y (O x)
    case skip=>
     obtain⟨_,x,e,y⟩:=h5;rw[e];exact h _ _ _ y (O x)
    case enter f args=>
     obtain⟨W,Y⟩:=h5;rw[W];refine Y.mono λe aa he=>?_;obtain⟨v,rfl,_,x,rfl,y⟩:=he;exact h _ _ _ y (O x)
   |halt x w'=>simp only[ik]at h5
  .rename_i D; simp only[D]at hh; exact h _ _ _ hC hh
theorem oH:∀(fuel:Nat)(listed:Array Bool)(C:World->Prop)(a:Act)(w:World),C w->WX P md ops Q fuel listed C a->wpAny P md ops Q fuel listed a w
 |0,_,_,_,w,y,h=>⟨h.1,h.2 w y⟩
 |fuel+1,_,_,_,w,y,h=>⟨λD=>h.1 D w y,λi hi=>sS y (λO U w' B W=>oH fuel _ O U w' B W) (h.2 i hi)⟩
def iM(P:Program)(ops:Array Oper)(C:World->Prop)(o:Oper)(v:Value)(a:Act):Prop:=
 (az o (a8 ops a.tmps)=true/\∀y,C y->jh P o a y (λu h=>kC y h/\u=v))\/
 (az o (a8 ops a.tmps)=false/\v=b9)
theorem iM.sub{B:World->Prop}(h:iM P ops C o v a)(D:∀y,B y->C y):iM P ops B o v a:=by
 rcases h with⟨O,U⟩|h
 .exact .inl ⟨O,λy W=>U y (D y W)⟩
 .exact .inr h
theorem iM.of_same{h:Act}(y:iM P ops C o v a)(B:a9 h.eval o=a9 a.eval o)
  (D:az o (a8 ops h.tmps)=az o (a8 ops a.tmps)):iM P ops C o v h:=by
 unfold iM jh at *;rw[B,D];exact y
theorem iM.SH(hi:ops[i]?=some o)(hC:iZ C)(B:iM P ops C o v a)(h:K C (a.put o.dst v)):vV P ops i C K a:=by
 unfold vV;simp only[hi];rcases B with⟨D,U⟩|⟨D,rfl⟩
 .simp only[D,if_true];exact⟨Unit,λ_=>C,λ_=>v,λ_=>hC,λ_ _ h=>h,λy B=>(U y B).mono λu W ⟨O,Y⟩=>⟨O,(),Y,hC y W B O⟩,λ_=>h⟩
 .simp only[D,aY,if_false]; exact h
theorem Ec{j:Nat}{B:Oper}(hj:ops[j]?=some B)(O:oi.apart ops B=true)
  (U:∀cs b,oi.op≠.select cs b) (W:∀cs b,B.op≠.select cs b) {K:(World->Prop)->Act->Prop} {a:Act} (hC:iZ C)
  (D:iM P ops C oi v a) (h:vV P ops j C K (a.put oi.dst v)) :
  vV P ops j C (λY a'=>iZ Y/\iM P ops Y oi v a'/\K Y (a'.put oi.dst v)) a:=by
 obtain⟨h1,h2,h3⟩:=b6 O
 have mT:∀(C:World->Prop)(a:Act),iM P ops C oi v a->∀u,iM P ops C oi v (a.put B.dst u):=λC a D u=>
  D.of_same (aC oi U a B.dst u h3) (aB oi a B.dst u h3)
 unfold vV at *;simp only[hj]at *;rw[aB B a oi.dst v h1]at h;split
 .rename_i hw;simp only[hw,if_true]at h;obtain⟨X,Cx,vx,q1,q2,q3,q4⟩:=h;refine⟨X,Cx,vx,q1,q2,λy aa=>?_,λx=>⟨q1 x,mT _ _ (D.sub (q2 x)) _,by rw[<-Act.put_comm a v (vx x) h2]; exact q4 x⟩⟩;have:=q3 y aa;unfold jh at *;rwa [aC B W a oi.dst v h1]at this
 .rename_i hw;simp only[hw]at h;exact⟨hC,mT _ a D _,by rw[<-Act.put_comm a v b9 h2]; exact h⟩
theorem vv(hi:ops[i]?=some oi)(O:∀(j:Nat)(o:Oper)cs b,ops[j]?=some o->o.op≠.select cs b) :
  ∀(fuel:Nat)(listed:Array Bool)(C:World->Prop)(a:Act),
   (∀j W,ops[j]?=some W->j≠i->listed.getD j true=false->(∀e∈W.after,a2 md e=true->e.on≠i)->oi.apart ops W=true)->
   i∈ay md ops listed->iZ C->iM P ops C oi v a->
   WX P md ops Q fuel (listed.setIfInBounds i true) C (a.put oi.dst v)->WX P md ops Q (fuel+1) listed C a:=by
 intro fuel
 induction fuel with
 |zero=>
  intro listed C a _ Y hC hy H;refine⟨λh=>(by rw[h]at Y; cases Y),λj hj=>?_⟩;by_cases y:j=i
  .subst y; exact hy.SH hi hC H
  .have:=aA hj y;rw[H.1]at this;cases this
 |succ fuel ih=>
  intro listed C a B Y hC hy H;refine⟨λh=>(by rw[h]at Y; cases Y),λj hj=>?_⟩;by_cases y:j=i
  .subst y; exact hy.SH hi hC H
  .have h1:=H.2 j (aA hj y);obtain⟨U,W,aa,jO⟩:=_root_.Go.mem_ready.1 hj
   have ab:∀e∈W.after,a2 md e=true->e.on≠i:=λe he hb ae=>by
    have h1:=jO e he hb;have h0:=(_root_.Go.mem_ready.1 Y).1;rw[ae]at h1;rcases bd i listed.size with h'|h'
    .simp[h']at h0 h1; rw[h0]at h1; cases h1
    .simp[aP h']at h1
   have h2:=Ec aa (B j W aa y U ab) (λcs b=>O i oi cs b hi) (λcs b=>O j W cs b aa) hC hy h1
   have D:∀k ok,ops[k]?=some ok->k≠i->(listed.setIfInBounds j true).getD k true=false->
     (∀e∈ok.after,a2 md e=true->e.on≠i)->oi.apart ops ok=true:=λk ok hk af ac ag=>by
    refine B k ok hk af ?_ ag;by_cases ad:j=k
    .subst ad; exact U
    .rw[aD true ad]at ac; exact ac
   refine A5 (λC' a' h3=>ih (listed.setIfInBounds j true) C' a' D (aA Y (Ne.symm y)) h3.1 h3.2.1 ?_) h2;rw[aR _ _ y];exact h3.2.2
theorem ic(i:Nat)(v:Value)(B:∀y,C y->jh P oi a y (λu D=>kC y D/\u=v))
  (h:WX P md ops Q fuel (listed.setIfInBounds i true) C (a.put oi.dst v)) (hi:ops[i]?=some oi:=by rfl)
  (O:a5 ops=true:=by kernel_rfl) (U:a6 md ops listed i=true:=by kernel_rfl) (W:(ay md ops listed).contains i=true:=by kernel_rfl) (hC:iZ C:=by exact j5 _)
  (Y:az oi (a8 ops a.tmps)=true:=by rfl):WX P md ops Q (fuel+1) listed C a:=
 vv hi (a3 O) fuel listed C a (a4 hi U) (by simpa using W) hC (.inl ⟨Y,B⟩) h
theorem MZ{rs:List Nat}(B:ay md ops listed=rs)(y:rs≠[])
  (h:∀i∈rs,vV P ops i C (λD O=>WX P md ops Q fuel (listed.setIfInBounds i true) D O) a):WX P md ops Q (fuel+1) listed C a:=
 ⟨λU=>absurd (B▸U) y,B▸h⟩
theorem tD(B:ay md ops listed=[])(h:∀y,C y->Q .normal a y):∀fuel,WX P md ops Q fuel listed C a
 |0=>⟨B,h⟩
 |_+1=>⟨λ_=>h,by rw[B]; simp⟩
theorem Jz(U:Nat->Value)(D:Nat->World->Prop)(hi:ops[i]?=some oi)(hC:iZ C)(Y:∀g,iZ (D g))
  (hw:az oi (a8 ops a.tmps)=true) (hy:∀y,C y->jh P oi a y (λv O=>kC y O/\v=U y.heap.size/\D y.heap.size O))
  (h:∀g,K (λy=>C y/\D g y) (a.put oi.dst (U g))):vV P ops i C K a:=by
 unfold vV;simp only[hi,hw,if_true];exact⟨Nat,λg y=>C y/\D g y,U,λg=>hC.and (Y g),λ_ _ h=>h.1,λy B=>(hy y B).mono λv O ⟨W,h2,h3⟩=>⟨W,y.heap.size,h2,hC y O B W,h3⟩,h⟩
theorem n8{id:Nat}(hm:P.follows .mixedOrders=true)
  (h:WX P .any ops Q ops.size (aO ops.size false) (kC w) a):(Code.region id ops true).wp P Q a w:=
 aL hm (oH _ _ _ _ _ (show kC w {w with drawn:=w.drawn+1}from⟨rfl,rfl,rfl,bc _,λ_ _=>rfl⟩) h)
theorem k7(a:Addr)(v:Value):iZ (λy=>y.cell? a=some v):=λy B h D=>by
 have hb:B.heap[a.block]?=y.heap[a.block]?:=bv D _ (bz y a h);show B.cell? a=some v;rw[b0 hb]; exact h
end
end
section
open Go.RowKit
variable {K:(World->Prop)->Act->Prop} {a:Act} {listed:Array Bool} {i:Nat} {oi:Oper} {v:Value} {C:World->Prop}
def oV(C:World->Prop):Prop:=∀y τ,C y->C (tp y τ)
def rZ(w:World):World->Prop:=λy=>∃τ,kC (tp w τ) y
theorem rZ.R9(w:World):iZ (rZ w):=λ_ _ ⟨τ,h⟩ y=>⟨τ,h.trans y⟩
theorem RL{w y:World}(h:kC w y)(τ:Nat->Question->Nat):kC (tp w τ) (tp y τ):=by
 obtain⟨B,W,D,O,U⟩:=h;exact⟨B,rfl,D,O,U⟩
theorem rZ.free(w:World):oV (rZ w):=λy τ ⟨_,h⟩=>⟨τ,RL h τ⟩
theorem rZ.at(w:World)(d:Nat):rZ w (w.at d):=⟨w.tape,⟨rfl,rfl,rfl,bc _,λ_ _=>rfl⟩⟩
section
variable {P:Program} {ops:Array Oper} {md:Region.Mode} {last:Nat} {tl:List Nat} {Sd:Act->World->Prop}
def AY(P:Program)(ops:Array Oper)(i:Nat)(C:World->Prop)(K:(World->Prop)->Act->Prop)(a:Act):Prop:=
 match ops[i]? with
 |none=>False
 |some o=>if az o (a8 ops a.tmps)=true then
   ∃(X:Type)(h:X->World->Prop)(B:X->Value),(∀x,iZ (h x))/\(∀x,oV (h x))/\(∀x y,h x y->C y)/\(∀y,C y->jh P o a y (λv D=>kC y D/\∃x,v=B x/\h x D))/\∀x,K (h x) (a.put o.dst (B x))
  else K C (a.put o.dst b9)
theorem Kt{K':(World->Prop)->Act->Prop}(h:∀C a,K C a->K' C a)(y:AY P ops i C K a):AY P ops i C K' a:=by
 unfold AY at *;split
 .rename_i B; simp only[B]at y
 .rename_i o B;simp only[B]at y;split
  .rename_i D;simp only[D,if_true]at y;obtain⟨X,O,U,W,Y,h3,h4,h5⟩:=y;exact⟨X,O,U,W,Y,h3,h4,λx=>h _ _ (h5 x)⟩
  .rename_i D; simp only[D]at y; exact h _ _ y
def WS(P:Program)(md:Region.Mode)(ops:Array Oper)(last:Nat)(tl:List Nat)(Sd:Act->World->Prop):Nat->Array Bool->(World->Prop)->Act->Prop
 |0,_,_,_=>False
 |fuel+1,listed,C,a=>ay md ops listed≠[]/\∀i∈ay md ops listed,if i=last then(∀t,bb md ops fuel t (listed.setIfInBounds last true) []=tl)/\∀y,C y->Sd a y else AY P ops i C (λh B=>WS P md ops last tl Sd fuel (listed.setIfInBounds i true) h B) a
structure IB(P:Program)(ops:Array Oper)(last:Nat)(W:List Nat->Act->World->Prop):Prop where
 op:∀(i:Nat)rest a w o,i≠last->ops[i]?=some o->az o (a8 ops a.tmps)=true->(∀τ,jh P o a (tp w τ) λv y=>kC (tp w τ) y/\W rest (a.put o.dst v) y)->W (i::rest) a w
 pass:∀(i:Nat)rest a w o,i≠last->ops[i]?=some o->az o (a8 ops a.tmps)=false->W rest (a.put o.dst b9) w->W (i::rest) a w
theorem WS.sound{W:List Nat->Act->World->Prop}(D:IB P ops last W)(B:∀a y,Sd a y->W (last::tl) a y):∀(fuel t:Nat)(listed:Array Bool)(C:World->Prop)(a:Act)(w:World),oV C->C w->WS P md ops last tl Sd fuel listed C a->W (bb md ops fuel t listed []) a w
 |0,_,_,_,_,_,_,_,h=>h.elim
 |fuel+1,t,listed,C,a,w,hT,hC,h=>by
  obtain⟨h0,h1⟩:=h
  simp only[bb]
  change W (match (ay md ops listed)[t % (ay md ops listed).length]? with
   |some i=>bb md ops fuel (t / (ay md ops listed).length) (listed.setIfInBounds i true) [i]
   |none=>[].reverse) a w
  cases hi:(ay md ops listed)[t % (ay md ops listed).length]? with
  |none=>
   exfalso
   cases hr:ay md ops listed with
   |nil=>exact h0 hr
   |cons x xs=>
    rw[hr]at hi;have Y:t % (x::xs).length<(x::xs).length:=Nat.mod_lt _ (by simp);simp at hi;simp at Y;omega
  |some i=>
   simp only[];rw[linearise_go_acc,List.reverse_singleton,List.singleton_append];have h2:=h1 i (List.mem_of_getElem? hi);by_cases e:i=last
   .subst e;simp only[if_true]at h2;rw[h2.1];exact B a w (h2.2 w hC)
   .simp only[e,if_false]at h2;unfold AY at h2
    cases O:ops[i]? with
    |none=>simp only[O]at h2
    |some o=>
     simp only[O]at h2;by_cases U:az o (a8 ops a.tmps)=true
     .simp only[U,if_true]at h2;obtain⟨X,Cx,vx,q1,q2,q3,q4,q5⟩:=h2;refine D.op i _ a w o e O U λτ=>(q4 _ (hT w τ hC)).mono λv y ⟨he,x,ev,hx⟩=>⟨he,?_⟩;rw[ev];exact WS.sound D B fuel _ _ (Cx x) _ y (q2 x) hx (q5 x)
     .simp only[U,aY,if_false]at h2;exact D.pass i _ a w o e O (by simpa using U) (WS.sound D B fuel _ _ C _ w hT hC h2)
inductive Sv(md:Region.Mode)(ops:Array Oper)(last:Nat):Nat->Prop
 |base {e o}:ops[last]?=some o->e∈o.after->a2 md e=true->Sv md ops last e.on
 |step {j:Nat} {e o}:Sv md ops last j->ops[j]?=some o->e∈o.after->a2 md e=true->Sv md ops last e.on
def Down(md:Region.Mode)(ops:Array Oper)(listed:Array Bool):Prop:=∀(j:Nat)o,ops[j]?=some o->listed.getD j false=true->∀e∈o.after,a2 md e=true->listed.getD e.on false=true
theorem Down.TS(h:Down md ops listed)(O:last∈ay md ops listed)(hi:Sv md ops last i):listed.getD i false=true:=by
 induction hi with
 |base B D hb=>
  obtain⟨_,W,y,jO⟩:=_root_.Go.mem_ready.1 O;rw[B]at y;cases y;exact jO _ D hb
 |step _ B D hb U=>exact h _ _ B U _ D hb
theorem Down.set(h:Down md ops listed)(Y:i∈ay md ops listed):Down md ops (listed.setIfInBounds i true):=by
 have up:∀k,listed.getD k false=true->(listed.setIfInBounds i true).getD k false=true:=by
  intro k D;by_cases e:i=k
  .subst e
   have:i<listed.size:=by
    apply Classical.byContradiction;intro hn;simp[aP (Nat.le_of_not_lt hn)]at D
   simp[this]
  .rw[aD false e]; exact D
 intro j o O U e W hb;by_cases y:i=j
 .subst y;obtain⟨_,o',B,jO⟩:=_root_.Go.mem_ready.1 Y;rw[O]at B;cases B;exact up _ (jO e W hb)
 .rw[aD false y]at U;exact up _ (h j o O U e W hb)
theorem OX{j:Nat}{B:Oper}(hj:ops[j]?=some B)(U:oi.apart ops B=true)
  (W:∀cs b,oi.op≠.select cs b) (Y:∀cs b,B.op≠.select cs b) {K:(World->Prop)->Act->Prop} {a:Act} (hC:iZ C) (hT:oV C)
  (D:iM P ops C oi v a) (h:AY P ops j C K (a.put oi.dst v)) :
  AY P ops j C (λO a'=>(iZ O/\oV O)/\iM P ops O oi v a'/\K O (a'.put oi.dst v)) a:=by
 obtain⟨h1,h2,h3⟩:=b6 U
 have mT:∀(C:World->Prop)(a:Act),iM P ops C oi v a->∀u,iM P ops C oi v (a.put B.dst u):=λC a D u=>
  D.of_same (aC oi W a B.dst u h3) (aB oi a B.dst u h3)
 unfold AY at *;simp only[hj]at *;rw[aB B a oi.dst v h1]at h;split
 .rename_i hw;simp only[hw,if_true]at h;obtain⟨X,Cx,vx,q1,qt,q2,q3,q4⟩:=h;refine⟨X,Cx,vx,q1,qt,q2,λy aa=>?_,λx=>⟨⟨q1 x,qt x⟩,mT _ _ (D.sub (q2 x)) _,by rw[<-Act.put_comm a v (vx x) h2]; exact q4 x⟩⟩;have:=q3 y aa;unfold jh at *;rwa [aC B Y a oi.dst v h1]at this
 .rename_i hw;simp only[hw]at h;exact⟨⟨hC,hT⟩,mT _ a D _,by rw[<-Act.put_comm a v b9 h2]; exact h⟩
theorem iM.TC{o:Oper}(hi:ops[i]?=some o)(hC:iZ C)(U:oV C)(B:iM P ops C o v a)(h:K C (a.put o.dst v)):AY P ops i C K a:=by
 unfold AY;simp only[hi];rcases B with⟨D,W⟩|⟨D,rfl⟩
 .simp only[D,if_true];exact⟨Unit,λ_=>C,λ_=>v,λ_=>hC,λ_=>U,λ_ _ h=>h,λy B=>(W y B).mono λu Y ⟨O,h2⟩=>⟨O,(),h2,hC y Y B O⟩,λ_=>h⟩
 .simp only[D,aY,if_false]; exact h
theorem NA(hi:ops[i]?=some oi)(ac:Sv md ops last i)(aj:i≠last)(W:∀(j:Nat)(o:Oper)cs b,ops[j]?=some o->o.op≠.select cs b) :
  ∀(fuel:Nat)(listed:Array Bool)(C:World->Prop)(a:Act),Down md ops listed->
   (∀j oj,ops[j]?=some oj->j≠i->listed.getD j true=false->(∀e∈oj.after,a2 md e=true->e.on≠i)->oi.apart ops oj=true\/j=last)->
   i∈ay md ops listed->iZ C->oV C->iM P ops C oi v a->
   WS P md ops last tl Sd fuel (listed.setIfInBounds i true) C (a.put oi.dst v)->WS P md ops last tl Sd (fuel+1) listed C a:=by
 intro fuel
 induction fuel with
 |zero=>intro listed C a _ _ _ _ _ _ H; exact H.elim
 |succ fuel ih=>
  intro listed C a hD B hr hC hT hy H;refine⟨λh=>(by rw[h]at hr; cases hr),λj hj=>?_⟩;have y:listed.getD i true=false:=(_root_.Go.mem_ready.1 hr).1;by_cases O:j=last
  .exfalso;subst O;have:=hD.TS hj ac;rcases bd i listed.size with h'|h'
   .simp[h']at this y; rw[y]at this; cases this
   .simp[aP h']at this
  .simp only[O,if_false];by_cases D:j=i
   .subst D; exact hy.TC hi hC hT H
   .have Y:=H.2 j (aA hj D);simp only[O,if_false]at Y;obtain⟨aa,oj,ab,jO⟩:=_root_.Go.mem_ready.1 hj
    have ad:∀e∈oj.after,a2 md e=true->e.on≠i:=λe he hb ag=>by
     have Y:=jO e he hb;rw[ag]at Y;rcases bd i listed.size with h'|h'
     .simp[h']at y Y; rw[y]at Y; cases Y
     .simp[aP h']at Y
    have h2:=OX ab ((B j oj ab D aa ad).resolve_right O) (λcs b=>W i oi cs b hi) (λcs b=>W j oj cs b ab) hC hT hy Y
    have U:∀k ok,ops[k]?=some ok->k≠i->(listed.setIfInBounds j true).getD k true=false->
      (∀e∈ok.after,a2 md e=true->e.on≠i)->oi.apart ops ok=true\/k=last:=λk ok hk ah ae ai=>by
     refine B k ok hk ah ?_ ai;by_cases af:j=k
     .subst af; exact aa
     .rw[aD true af]at ae; exact ae
    refine Kt (λC' a' h3=>ih (listed.setIfInBounds j true) C' a' (hD.set hj) U (aA hr (Ne.symm D)) h3.1.1 h3.1.2 h3.2.1 ?_) h2;rw[aR _ _ D];exact h3.2.2
end
end
section
open Go.RowKit
open Go.Conc
variable {listed:Array Bool} {fuel:Nat} {o:Oper} {C:World->Prop}
section
variable {P:Program} {ops:Array Oper} {md:Region.Mode} {last:Nat} {tl:List Nat} {Sd:Act->World->Prop}
def wC(md:Region.Mode)(ops:Array Oper)(j:Nat):List Nat:=match ops[j]? with
 |some o=>(o.after.toList.filter λe=>a2 md e).map (·.on)
 |none=>[]
def Qu(md:Region.Mode)(ops:Array Oper)(last:Nat):Nat->List Nat
 |0=>wC md ops last
 |n+1=>Qu md ops last n++(Qu md ops last n).flatMap (wC md ops)
theorem EU{j i:Nat}(h:i∈wC md ops j):∃o e,ops[j]?=some o/\e∈o.after/\a2 md e=true/\e.on=i:=by
 unfold wC at h
 cases y:ops[j]? with
 |none=>rw[y]at h; cases h
 |some o=>
  rw[y]at h;simp only[bm,bj,aT]at h;obtain⟨e,⟨B,D⟩,O⟩:=h;exact⟨o,e,rfl,B,D,O⟩
theorem H9:∀(n:Nat){i:Nat},i∈Qu md ops last n->Sv md ops last i
 |0,i,h=>by
  obtain⟨o,e,y,B,D,rfl⟩:=EU h
  exact .base y B D
 |n+1,i,h=>by
  rcases List.mem_append.1 h with h|h
  .exact H9 n h
  .obtain⟨j,O,hi⟩:=List.mem_flatMap.1 h;obtain⟨o,e,y,B,D,rfl⟩:=EU hi;exact .step (H9 n O) y B D
def Ow(md:Region.Mode)(ops:Array Oper)(listed:Array Bool):Bool:=(bn ops.size).all λj=>!listed.getD j false || (wC md ops j).all λi=>listed.getD i false
theorem PY(h:Ow md ops listed=true):Down md ops listed:=by
 intro j o y B e D hb;unfold Ow at h;rw[bi]at h;have:=h j (by simpa using(aQ.1 y).1);rw[B]at this;simp only[Bool.not_true,Bool.false_or,bi]at this;refine this e.on ?_;unfold wC;rw[y];simp only[bm,bj,aT];exact⟨e,⟨D,hb⟩,rfl⟩
def QW(md:Region.Mode)(ops:Array Oper)(last:Nat)(listed:Array Bool)(i:Nat):Bool:=a5 ops&&a6 md ops listed i&&(ay md ops listed).contains i&&(Qu md ops last ops.size).contains i&&i != last&&Ow md ops listed
theorem jA(i:Nat)(v:Value){oi:Oper}{a:Act}(B:∀y,C y->jh P oi a y (λu D=>kC y D/\u=v))
  (h:WS P md ops last tl Sd fuel (listed.setIfInBounds i true) C (a.put oi.dst v)) (hi:ops[i]?=some oi:=by rfl) (hb:QW md ops last listed i=true:=by kernel_rfl) (hC:iZ C:=by exact rZ.R9 _) (O:oV C:=by exact rZ.free _)
  (U:az oi (a8 ops a.tmps)=true:=by rfl):WS P md ops last tl Sd (fuel+1) listed C a:=by
 simp only[QW,aZ]at hb;obtain⟨⟨⟨⟨⟨W,Y⟩,h3⟩,h4⟩,h5⟩,h6⟩:=hb;exact NA hi (H9 _ (by simpa using h4)) (by simpa using h5) (a3 W) fuel listed C a (PY h6) (λj oj a b c d=>.inl (a4 hi Y j oj a b c d)) (by simpa using h3) hC O (.inl ⟨U,B⟩) h
theorem Sq(y:ay md ops listed=[]):∀(fuel t:Nat),bb md ops fuel t listed []=[]
 |0,_=>rfl
 |f+1,t=>by
  simp only[bb]
  split
  .rename_i q B
   have h:(ay md ops listed)[t % (ay md ops listed).length]?=some q:=B
   rw[y]at h;cases h
  .rfl
theorem Jj{a:Act}(D:ay md ops listed=[last])(O:∀t,bb md ops fuel t (listed.setIfInBounds last true) []=tl)(h:∀y,C y->Sd a y):WS P md ops last tl Sd (fuel+1) listed C a:=by
 refine⟨by rw[D]; simp,λj B=>?_⟩;rw[D]at B;simp only[bk,bh,or_false]at B;subst B;simp only[if_true];exact⟨O,h⟩
end
section
variable {P:Program} {ops:Array Oper} {Q:Exit->Act->World->Prop}
def xZ(P:Program)(ops:Array Oper)(Q:Exit->Act->World->Prop)(l:List Nat)(a:Act)(w:World):Prop:=∀b k cs,∃e h w',Q e h w'/\Arrives P (aI (b.at a (.inRegion ops l::k)) cs w) b k cs e h w'
theorem ME{i:Nat}{rest:List Nat}{a:Act}{w:World}(ho:ops[i]?=some o)(hw:az o (a8 ops a.tmps)=true)(hj:jh P o a w λv y=>xZ P ops Q rest (a.put o.dst v) y):xZ P ops Q (i::rest) a w:=by
  intro b k cs;have hg:=stepG_op (P:=P) (b:=b) (k:=k) (cs:=cs) (w:=w) (rest:=rest) ho hw
  have B:∀v,(b.at a (.inRegion ops (i::rest)::k)).finish v=b.at (a.put o.dst v) (.inRegion ops rest::k):=by
   intro v; rw[bp,ho]; rfl
  unfold jh at hj
  cases Y:(a9 a.eval o).run P w with
  |halt x w'=>rw[Y]at hj; exact hj.elim
  |ok n w'=>
   rw[Y]at hj;cases n<;>simp only[ik]at hj
   case value v=>
    obtain⟨e,a',D,hq,h⟩:=hj b k cs;refine⟨e,a',D,hq,.of_steps (.one (aH ?_)) h⟩;rw[hg,<-B]; simp[aV,Y]
   case skip=>
    obtain⟨e,a',D,hq,h⟩:=hj b k cs;refine⟨e,a',D,hq,.of_steps (.one (aH ?_)) h⟩;rw[hg,<-B]; simp[aV,Y]
   case enter f args=>
    obtain⟨rfl,hc⟩:=hj;obtain⟨e,w2,fr,⟨v,rfl,hR⟩,W,_,O⟩:=hc (b.at a (.inRegion ops (i::rest)::k)::cs);obtain⟨e,a',D,hq,h⟩:=hR b k cs
    have U:step P (aI (b.at a (.inRegion ops (i::rest)::k)) cs w')=.next (aI (bo P f args .normal) (b.at a (.inRegion ops (i::rest)::k)::cs) w'):=
     aH (by rw[hg]; simp[aV,Y,Frame.at])
    refine⟨e,a',D,hq,.of_steps (.head U (Steps.trans W (.one ?_))) h⟩;rw[<-B]; exact step_leave_returned O
theorem I0{i:Nat}{rest:List Nat}{a:Act}{w:World}(B:ops[i]?=some o)(O:az o (a8 ops a.tmps)=false)(h:xZ P ops Q rest (a.put o.dst b9) w):xZ P ops Q (i::rest) a w:=by
  intro b k cs;obtain⟨e,U,w',W,y⟩:=h b k cs;have D:=step_op_skip (P:=P) (b:=b) (a:=a) (k:=k) (cs:=cs) (w:=w) (ops:=ops) (i:=i) (rest:=rest) (by simp[B,O]);simp only[B,b4]at D;exact⟨e,U,w',W,.of_steps (.one D) y⟩
theorem H5{last:Nat}{Uw:Nat->Question->Nat}:IB P ops last λl a w=>w.tape=Uw->xZ P ops Q l a w where
 op i rest a w o _ ho hw hj ht:=ME ho hw ((show jh P o a w _ from hj w.tape).mono λ_ _ h=>h.2 (h.1.tape.trans ht))
 pass i rest a w o _ ho hw h ht:=I0 ho hw (h ht)
theorem Hv{i:Nat}{a:Act}{w:World}{x y:Operand}{r cap s rc:Nat}{B:Array Value}{tm:Bool}{v:Value}(ho:ops[i]?=some o)(Y:o.guard=none)(O:o.op=.send x y)(hd:o.dst=none)(hx:a.eval x=.chan (some r))(hy:a.eval y=v)(hc:w.heap[r]?=some (.chan cap B false s rc tm))(hb:B.size<cap)
  (h:Q .normal a {w with heap:=w.heap.setIfInBounds r (.chan cap (B.push v) false (s+1) rc tm)}):xZ P ops Q [i] a w:=by
 intro b k cs;have hw:az o (a8 ops a.tmps)=true:=by simp[az,Y]
 have Y:=stepG_op (P:=P) (b:=b) (k:=k) (cs:=cs) (w:=w) (rest:=[]) ho hw
 have U:a9 a.eval o=pure (.comm #[{chan:=.chan (some r),send:=some v,zero:=b9}] true .send):=by
  obtain⟨d,op,ty,ps,af,gd⟩:=o;simp only at O;subst O;simp only[a9,hx,hy];rfl
 have aa:aG P true (G (b.at a (.inRegion ops [i]::k)) cs) w=.comm (G (b.at a (.inRegion ops [i]::k)) cs) #[⟨.chan (some r),some v,b9⟩] true .send w (aJ P b.fn (if(b.kind==CallKind.early)=true then #[]else #[])):=by
  show aG P true {frame:=b.at a (.inRegion ops [i]::k),callers:=cs,status:=.running,dying:=none} w=_;rw[Y,U];unfold aV;simp only[if_true];rfl
 have D:=(GC.send (P:=P) aa hc hb).next
 have W:(b.at a (.inRegion ops [i]::k)).finish b9=b.at a (.inRegion ops []::k):=by
  rw[bp,ho];simp[Act.put,hd]
 refine⟨.normal,a,_,h,.head D ?_⟩;show Steps P (aI ((b.at a (.inRegion ops [i]::k)).finish b9) cs _) _;rw[W];exact .one step_region_end
theorem zA{id last:Nat}{tl:List Nat}{a:Act}{w:World}{Sd:Act->World->Prop}(hm:P.follows .mixedOrders=true)(h:WS P .any ops last tl Sd ops.size (aO ops.size false) (rZ w) a)(D:∀a y,Sd a y->y.tape=w.tape->xZ P ops Q (last::tl) a y):(Code.region id ops true).wp P Q a w:=by
 intro b k cs;obtain⟨e,O,w',U,B⟩:=WS.sound (H5 (P:=P) (ops:=ops) (Q:=Q) (Uw:=w.tape)) D ops.size (w.tape w.drawn (.order b.fn id)) _ _ a {w with drawn:=w.drawn+1} (rZ.free w) (rZ.at w _) h rfl b k cs;refine⟨e,O,w',U,.of_steps (.one ?_) B⟩;rw[step_region_draw];simp only[a7,hm,ba,if_true];rfl
end
end
section
open Go.RowKit
open Go.Conc
variable {ops:Array Oper} {last:Nat}
section
variable {P:Program} {E:Env P} {fn:aF} {tm:Array Value} {os:List OF} {wl:World} {V:List (Nat×Option (List Value))} {k:List Item}
theorem lE.calls{i:Nat}{rest:List Nat}{o:Oper}{f:aF}{args:Array Value}{R:Ending->World->Prop}(hi:ops[i]?=some o)(hC:∀τ,Bl τ wl->aK P f args (tp wl τ) R)(Y:∀e w',R e w'->∃v,e=.returned v/\gP E (⟨fn,jg o.dst tm v,.inRegion ops rest::k⟩::os) w' V) :
  lE E ⟨bo P f args .normal,[door P],wl⟩ (⟨fn,tm,.inRegion ops (i::rest)::k⟩::os) V:=by
 let B:LS->Prop:=λS=>S.cs=[door P]/\∃v,S.fr.leaving P S.w (.returned v)/\R (.returned v) S.w;refine lE.pU (Stop:=λS=>∃τ,B (S.on τ)) (λS τ ⟨y,h⟩=>⟨y,h⟩) (λy O=>?_) λS' ⟨y,hc,v,hl,U⟩=>?_
 .obtain⟨e,w',fr,U,D,_,W⟩:=hC y O [door P];obtain⟨v,rfl,_⟩:=Y e w' U;obtain⟨n,hn⟩:∃n,runN P n (aI (bo P f args .normal) [door P] (tp wl y))=.next (aI fr [door P] w'):=D;exact⟨n,⟨fr,[door P],w'⟩,hn,⟨w'.tape,rfl,v,W,U⟩,by simp⟩
 .obtain⟨v',hv,hW⟩:=Y _ _ U;cases hv;exact lE.tape (τ:=y) (lE.ret hi hc hl hW)
theorem gP.any{i:Nat}{rest:List Nat}{o:Oper}(hi:ops[i]?=some o)(ar:az o (a8 ops tm)=true)(ho:OkOp P E.jz E.gl E.st o.op)
  (ad:∀τ,ik P (tp wl τ) (λv y=>gP E (⟨fn,jg o.dst tm v,.inRegion ops rest::k⟩::os) y V) ((a9 (lG tm) o).run P (tp wl τ))):gP E (⟨fn,tm,.inRegion ops (i::rest)::k⟩::os) wl V:=by
 intro m Pd ρ gs w sl t fr' cs' O au ak ae h0;refine turn (Z:=E.Z) (a:=G fr' cs') (K:=λj=>(ρ j).sum) (N:=gs.size) rfl ?_ ρ gs w sl t au (λ_=>rfl) h0 rfl;intro Uj gs' w' av W d t' Y hK af hN;have ag:=ae
 cases ae with
 |@cons _ _ B l ht aw=>
  have hs:=FO O.ry.env O.ry.strict O.ry.kL (gl:=E.gl) (ρ:=lG tm) (Uj:=lG B) (λx hx=>Jp ht O.ry.qG x hx) (λc=>⟨rfl,rfl⟩) o (by rw[O.jz]; exact ho);have al:=Y.main.tp (along wl (w'.at d));have am:=hs.run (tp wl (along wl (w'.at d))) (w'.at d) #[] al (rm wl (w'.at d));have an:=hs.loc (tp wl (along wl (w'.at d))) (w'.at d) al;have hJ:=ad (along wl (w'.at d));have hy:az o (a8 ops B)=true:=by rw[show a8 ops B=a8 ops tm from funext (oB ops ht)]; exact ar
  have ao:=oA (P:=P) (fn:=fn) (k:=k) (rest:=rest) (cs':=cs') (w:=w'.at d) hi hy;have ap:0<gs'.size:=(aQ.1 af).1;have aa:=λv'=>lM fn B ops i rest k v';simp only[hi,b4]at aa
  cases ab:(a9 (lG tm) o).run P (tp wl (along wl (w'.at d)))with
  |halt x wn=>rw[ab]at hJ; exact hJ.elim
  |ok n wn=>
   rw[ab]at hJ am;obtain⟨D,n',Uc,es,e1,e2,e3,e4,_,e5,e6⟩:=am;rw[aU]at e1
   have aq:∀e∈aJ P fn (if(CallKind.normal==CallKind.early)=true then #[]else es),qJ D e:=λe he=>by
    have:=mem_seen he;split at this
    .simp at this
    .exact e6 e this
   have val:∀v v',VR D v v'->gP E (⟨fn,jg o.dst tm v,.inRegion ops rest::k⟩::os) wn V->aV P true (jx fn B (.inRegion ops (i::rest)::k)) cs' none (a9 (lG B) o) (w'.at d)=.go (G (jx fn (jg o.dst B v') (.inRegion ops rest::k)) cs') Uc (aJ P fn (if(CallKind.normal==CallKind.early)=true then #[]else es))->E.Z.Fin (crowd gs' w' av) (runT P (crowd gs' (w'.at d) W) 0) t':=by
    intro v v' hv hW ah;have ai:=runT_crowd_go (P:=P) (sl:=W) (i:=0) af (show aG P (0==0) _ (w'.at d)=_ from ao.trans ah);rw[ai];refine E.Z.next _ _ _ _ ?_;exact hW D Pd Uj _ _ W _ _ _ (O.le e2 e5) (Y.yC (gs':=(gs'.map (woken P _ _ Uc)).setIfInBounds 0 (G (jx fn (jg o.dst B v') (.inRegion ops rest::k)) cs')) e2 e5 aq e4 (by simp) (jX _)) (ak.le e2 hK) (.cons (o:=⟨fn,jg o.dst tm v,.inRegion ops rest::k⟩) ((ht.mono e2).jg o.dst hv) (aw.mono e2)) (by simp[ap])
   cases n<;>simp only[ik]at hJ
   case value v=>
    cases e3 with
    |@value _ v' hv=>
     refine val v v' hv hJ ?_;unfold aV;simp only[if_true,e1,aa];simp[b2,G,jx]
   case skip=>
    cases e3 with
    |skip=>
     refine val b9 b9 (.undef D) hJ ?_;unfold aV;simp only[if_true,e1,aa];simp[b2,G,jx]
   case enter f args=>
    obtain⟨rfl,hc⟩:=hJ
    have jO:∀τ,Bl τ (tp wl (along wl (w'.at d)))->aK P f args (tp (tp wl (along wl (w'.at d))) τ) λe ax=>∃v,e=.returned v/\gP E (⟨fn,jg o.dst tm v,.inRegion ops rest::k⟩::os) ax V:=by
     intro τ _;rcases an with⟨x,w2,ex,_⟩|⟨_,_,h3⟩
     .rw[ab]at ex; cases ex
     .have h4:=h3 τ (by rw[ab]; intro j a b; simp only[Dk]at b; omega);rw[ab]at h4;have h4:(a9 (lG tm) o).run P (tp wl τ)=.ok (.enter f args) (tp wl τ):=h4;have h5:=ad τ;rw[h4]at h5;exact h5.2
    have hW:=lE.calls (E:=E) (fn:=fn) (tm:=tm) (os:=os) (V:=V) (k:=k) (rest:=rest) hi jO λe w' h=>h
    cases e3 with
    |@enter _ _ aj hf hb ha=>
     have ah:aV P true (jx fn B (.inRegion ops (i::rest)::k)) cs' none (a9 (lG B) o) (w'.at d)=.go (G (bo P f aj .normal) (jx fn B (.inRegion ops (i::rest)::k)::cs')) Uc (aJ P fn (if(CallKind.normal==CallKind.early)=true then #[]else es)):=by
      unfold aV;simp only[if_true,e1];simp[b2,G,jx]
     have ai:=runT_crowd_go (P:=P) (sl:=W) (i:=0) af (show aG P (0==0) _ (w'.at d)=_ from ao.trans ah);rw[ai];refine E.Z.next _ _ _ _ ?_;have U:=O.le e2 e5;have ac:=ag.mono e2;exact hW D Pd Uj _ _ W _ _ _ _ U (Y.yC (gs':=(gs'.map (woken P _ _ Uc)).setIfInBounds 0 _) e2 e5 aq e4 (by simp) (jX _)) (ak.le e2 hK) ac (.one (Dx (U.ry.env.calls f hf) hb ha .normal .normal) rfl (.inl ⟨rfl,vU (.inl (by simp)) ac⟩) rfl) (by simp[ap])
theorem ve(o:Option Tmp)(tm:Array Value)(v:Value):(Act.put ⟨tm,[]⟩ o v)=⟨jg o tm v,[]⟩:=by cases o<;>rfl
def Tj(E:Env P)(fn:aF)(ops:Array Oper)(k:List Item)(os:List OF)(V:List (Nat×Option (List Value)))(l:List Nat)(a:Act)(w:World):Prop:=a.defers=[]->gP E (⟨fn,a.tmps,.inRegion ops l::k⟩::os) w V
theorem GH(O:∀(i:Nat)o,i≠last->ops[i]?=some o->OkOp P E.jz E.gl E.st o.op):IB P ops last (Tj E fn ops k os V) where
 op:=by
  intro i rest a w o W D U Y B;obtain⟨tm,df⟩:=a;simp only at B;subst B;refine gP.any D U (O i o W D) λτ=>?_;have:=Y τ;unfold jh at this;refine ik.mono (λv y ⟨_,h⟩=>?_) this;rw[ve]at h;exact h rfl
 pass:=by
  intro i rest a w o _ D U h B;obtain⟨tm,df⟩:=a;simp only at B;subst B;rw[ve]at h;exact gP.pass D U (h rfl)
theorem gP.Im{id:Nat}{tl:List Nat}{Sd:Act->World->Prop}(hm:P.follows .mixedOrders=true)(B:∀(i:Nat)o,i≠last->ops[i]?=some o->OkOp P E.jz E.gl E.st o.op)(h:WS P .any ops last tl Sd ops.size (aO ops.size false) (rZ wl) ⟨tm,[]⟩)
  (D:∀a y,Sd a y->a.defers=[]/\gP E (⟨fn,a.tmps,.inRegion ops (last::tl)::k⟩::os) y V):gP E (⟨fn,tm,.code (.region id ops true)::k⟩::os) wl V:=by
 refine gP.Q6 λt=>?_;simp only[a7,hm,ba,if_true];exact WS.sound (GH B) (λa y h _=>(D a y h).2) ops.size t _ _ ⟨tm,[]⟩ wl (rZ.free wl) (rZ.at wl wl.drawn) h rfl
end
end
section
open Go.Conc
variable {p:Addr} {tm:Array Value} {v:Value}
structure BA(P:Program)(f:aF)(jZ:Func)(s:Tmp)(ty:aN)(ops:Array Oper)(rest:Code):Prop where
 fn:P.funcs[f]?=some jZ
 body:jZ.body=some (.seq (.region 0 ops false) rest)
 name:jZ.name≠ "runtime.NumGoroutine"
 two:∃q0 q1 a0 a1,ops=#[{dst:=some s,op:=.load ty (.tmp 0),type:=ty,pos:=q0,after:=a0,guard:=none},{dst:=none,op:=.defer {callee:=.builtin .close,args:=#[.tmp s],argTypes:=#[ty]},type:=0,pos:=q1,after:=a1,guard:=none}]
 load:∀(a:Addr)(v:Value)(w:World),w.cell? a=some v->(Instr.loadAt ty (.pointer (some a)) >>= λv=>(pure (.value v):Sem Go.Next)).runT P w #[]=(.ok (.value v) w,#[⟨.cell a,false,false⟩])
def yx(P:Program):Frame:={(default:Frame)with fn:=P.funcs.size,defers:=[],mode:=.panicking [goexitEntry]}
section
variable {P:Program} {f:aF} {jZ:Func} {s:Tmp} {ty:aN} {ops:Array Oper} {rest:Code}
def Ev(f:aF)(tm:Array Value)(td:List Item)(h:List Deferred):Frame:=⟨f,tm,td,h,.run,.deferred,none⟩
theorem Dp(h:BA P f jZ s ty ops rest)(cap:Array Value)(w:World):aG P false (nL P ⟨.fn (.func f) cap,#[]⟩) w=.go (G (Ev f (cap++aO (jZ.ntmps-cap.size) b9) [.code (.seq (.region 0 ops false) rest)] []) [yx P]) w #[]:=by
 have B:(jZ.name == "runtime.NumGoroutine")=false:=by simpa using h.name
 have y:(invoke (.fn (.func f) cap) #[]).runT P w #[]=(.ok (.enter f cap) w,#[]):=by
  have e:invoke (.fn (.func f) cap) #[]=callFunc f (#[]++cap):=rfl;rw[e,aU];unfold callFunc;have D:∀k:Program->Sem Go.Next,(program >>= k).runT P w #[]=(k P).runT P w #[]:=λk=>rfl;rw[D];simp only[h.fn,B,h.body,aY,if_false,Option.isNone_some];rfl
 have O:aG P false (nL P ⟨.fn (.func f) cap,#[]⟩) w=aM P (yx P) [] none ⟨.fn (.func f) cap,#[]⟩ w:=rfl;rw[O];unfold aM;simp only[y,Bool.false_and,aY,if_false];simp[b2,G,Ev,bo,h.fn,h.body,aJ]
theorem F7(f:aF)(tm:Array Value)(td:List Item)(h:List Deferred):(Ev f tm td h).eval=lG tm:=by funext x; cases x<;>rfl
theorem Gx(W:BA P f jZ s ty ops rest){w:World}{ps:Frame}(Y:(P.funcs[f]?).any (·.norace)=false)(hp:tm.getD 0 b9=.pointer (some p))(hv:w.cell? p=some v) :
  aG P false (G (Ev f tm [.inRegion ops [0,1],.code rest] []) [ps]) w=.go (G (Ev f (tm.setIfInBounds s v) [.inRegion ops [1],.code rest] []) [ps]) w #[⟨.cell p,false,false⟩]:=by
 obtain⟨D,q1,O,a1,y⟩:=W.two;have e:aG P false (G (Ev f tm [.inRegion ops [0,1],.code rest] []) [ps]) w=aW P false true (Ev f tm [.inRegion ops [0,1],.code rest] []) [ps] none w:=rfl;rw[e];have he:=F7 f tm [.inRegion ops [0,1],.code rest] []
 have B:(a9 (lG tm) {dst:=some s,op:=.load ty (.tmp 0),type:=ty,pos:=D,after:=O,guard:=none}).runT P w #[]=(.ok (.value v) w,#[⟨.cell p,false,false⟩]):=by
  have e1:a9 (lG tm) {dst:=some s,op:=.load ty (.tmp 0),type:=ty,pos:=D,after:=O,guard:=none}=(Instr.loadAt ty (lG tm (.tmp 0)) >>= λv=>pure (.value v)):=rfl;rw[e1];have e2:lG tm (.tmp 0)=.pointer (some p):=hp;rw[e2];exact W.load p v w hv
 unfold aW;have h:ops[0]?=some {dst:=some s,op:=.load ty (.tmp 0),type:=ty,pos:=D,after:=O,guard:=none}:=by rw[y]; rfl
 simp only[Ev,h,b5,b3];rw[if_pos (by simp[az])];unfold aX;simp only[br,h];have U:bs ⟨f,tm,[.inRegion ops [0,1],.code rest],[],.run,.deferred,none⟩=lG tm:=he;rw[U];unfold aV;simp only[if_true,B];simp[b2,G,bq,h,aJ,Y]
def JE(s:Tmp):Array Bool:=(#[Operand.tmp s]).map fun|.const _=>true|_=>false
theorem Dc(W:BA P f jZ s ty ops rest){w:World}{ps:Frame}(Y:tm.getD s b9=v):aG P false (G (Ev f tm [.inRegion ops [1],.code rest] []) [ps]) w=.go (G (Ev f tm [.inRegion ops [],.code rest] [⟨.builtin .close #[ty] 0 (JE s),#[v]⟩]) [ps]) w #[]:=by
 obtain⟨q0,D,a0,O,y⟩:=W.two;have e:aG P false (G (Ev f tm [.inRegion ops [1],.code rest] []) [ps]) w=aW P false true (Ev f tm [.inRegion ops [1],.code rest] []) [ps] none w:=rfl;have he:=F7 f tm [.inRegion ops [1],.code rest] []
 have B:(a9 (lG tm) {dst:=none,op:=.defer {callee:=.builtin .close,args:=#[.tmp s],argTypes:=#[ty]},type:=0,pos:=D,after:=O,guard:=none}).runT P w #[]=(.ok (.defer ⟨.builtin .close #[ty] 0 (JE s),#[v]⟩) w,#[]):=by
  have ha:(#[Operand.tmp s]).map (lG tm)=#[v]:=by simp[lG,Act.eval,<-Y]
  have e1:a9 (lG tm) {dst:=none,op:=.defer {callee:=.builtin .close,args:=#[.tmp s],argTypes:=#[ty]},type:=0,pos:=D,after:=O,guard:=none}=pure (.defer ⟨.builtin .close #[ty] 0 (JE s),(#[Operand.tmp s]).map (lG tm)⟩):=rfl;rw[e1,ha];rfl
 rw[e];unfold aW;have h:ops[1]?=some {dst:=none,op:=.defer {callee:=.builtin .close,args:=#[.tmp s],argTypes:=#[ty]},type:=0,pos:=D,after:=O,guard:=none}:=by rw[y]; rfl
 simp only[Ev,h,b5,b3];rw[if_pos (by simp[az])];unfold aX;simp only[br,h];have U:bs ⟨f,tm,[.inRegion ops [1],.code rest],[],.run,.deferred,none⟩=lG tm:=he;rw[U];unfold aV;simp only[if_true,B];simp[b2,G,bq,h,aJ]
theorem Bc{J:pz}{m:Ren}{S:LS}{cap y:Array Value}(hc:BA P f jZ s ty ops rest)(hq:(P.funcs[f]?).any (·.norace)=false)(ae:oh P m J.gl false)(U:¬m.kL)(af:Open m)(hJ:J.Ren m)(hT:J.T=[yx P])(B:iI m cap y)(ag:cap[0]?=some (.pointer (some p)))(aq:s≠0)(hs:s<jZ.ntmps)(hn:cap.size<=jZ.ntmps)(ah:S.w.cell? p=some (.chan (some J.r)))(ai:jy m.ok rest)
  (hS:S.fr=⟨f,(cap++aO (jZ.ntmps-cap.size) b9).setIfInBounds s (.chan (some J.r)),[.code rest],[⟨.collected J.rd,#[.chan (some J.r)]⟩],.run,.normal,none⟩) (W:S.cs=[door P]):sN P J m S 5 (nL P ⟨.fn (.func f) y,#[]⟩):=by
 have ar:∀w:World,w.at w.drawn=w:=λw=>rfl;obtain⟨q',Y,aj⟩:=B.get ag
 have ak:∃p',q'=.pointer (some p')/\AR m p p':=by
  cases aj with
  |ptr ha=>exact⟨_,rfl,ha⟩
 obtain⟨p',rfl,aa⟩:=ak
 have ab:(y++aO (jZ.ntmps-y.size) b9).getD 0 b9=.pointer (some p'):=by
  have al:0<y.size:=(aQ.1 Y).1;rw[aS,Array.getElem?_append_left al,Y];rfl
 have O:∀w,WR m S.w w->w.cell? p'=some (.chan (some J.c)):=by
  intro w D;obtain⟨v',am,an⟩:=D.cell aa ah
  cases an with
  |chan hb=>
   rw[hJ.ch]at hb;cases hb;exact am
 have ao:y.size=cap.size:=B.size.symm;refine⟨rfl,λw D=>⟨_,w.drawn,#[],Dp hc y w,by simp,?_⟩⟩;refine⟨rfl,λw D=>⟨G (Ev f (y++aO (jZ.ntmps-y.size) b9) [.code (.region 0 ops false),.code rest] []) [yx P],w.drawn,#[],rfl,by simp,?_⟩⟩;refine⟨rfl,λw D=>⟨G (Ev f (y++aO (jZ.ntmps-y.size) b9) [.inRegion ops [0,1],.code rest] []) [yx P],w.drawn,#[],?_,by simp,?_⟩⟩
 .obtain⟨q0,q1,a0,a1,ac⟩:=hc.two;have:bn ops.size=[0,1]:=by rw[ac]; rfl
  show aW P false true (Ev f (y++aO (jZ.ntmps-y.size) b9) [.code (.region 0 ops false),.code rest] []) [yx P] none w=_;unfold aW;simp[Ev,G,this];rfl
 refine⟨rfl,λw D=>⟨_,w.drawn,_,Gx (ps:=yx P) hc hq ab (O w D),?_,?_⟩⟩
 .intro e he;simp only[List.mem_toArray,bk,bh,or_false]at he;subst he;exact⟨rfl,p,aa,λh=>by cases h⟩
 have ad:((y++aO (jZ.ntmps-y.size) b9).setIfInBounds s (.chan (some J.c))).getD s b9=.chan (some J.c):=by
  have hz:(y++aO (jZ.ntmps-y.size) b9).size=jZ.ntmps:=by simp; omega
  have:s<(y++aO (jZ.ntmps-y.size) b9).size:=by rw[hz]; exact hs
  rw[aS,Array.getElem?_setIfInBounds_self_of_lt this];rfl
 have ap:=λw=>Dc (ps:=yx P) (w:=w) hc ad;refine⟨rfl,λw D=>⟨_,w.drawn,#[],ap w,by simp,?_⟩⟩;refine⟨rfl,λw D=>⟨Ev f ((y++aO (jZ.ntmps-y.size) b9).setIfInBounds s (.chan (some J.c))) [.code rest] [⟨.builtin .close #[ty] 0 (JE s),#[.chan (some J.c)]⟩],[yx P],w.drawn,#[],rfl,by simp,?_⟩⟩;refine⟨ae,U,af,?_,D.at w.drawn⟩;rw[W,hS,hT];refine .one ⟨rfl,?_,.cons (.code rest ai) .nil,.cons ⟨.mark _ _ _ hJ.dead,.one (.chan hJ.ch)⟩ .nil,.run,.none⟩ rfl (.inr ⟨rfl,yx P,rfl,rfl⟩) rfl;rw[ao];exact(B.append (.replicate _ (.undef m))).set s (.chan hJ.ch)
end
end
section
open Go.Conc
variable {c:Array Value} {caps:List Nat} {r:Nat}
structure Ren.zQ(m m':Ren):Prop where
 blk:m'.blk=m.blk
 ch:m'.ch=m.ch
 ok:m'.ok=m.ok
 jz:m'.jz=m.jz
 kL:m'.kL=m.kL
 dead:m'.dead=m.dead
 dm:m'.dm=m.dm
 G:m'.G=m.G
 tI:m'.tI=m.tI
section
variable {m m':Ren}
theorem AR.mW(h:m.zQ m'){a y:Addr}(x:AR m a y):AR m' a y:=by cases x with|mk hb=>exact .mk (by rw[h.blk]; exact hb)
theorem M1.mW(h:m.zQ m'){a y:Fn}(x:M1 m a y):M1 m' a y:=by
 cases x with
 |func f B=>exact .func f (by rw[h.jz]; exact B)
 |yield hb=>exact .yield (by rw[h.blk]; exact hb)
theorem VR.mW(h:m.zQ m'){v U:Value}(x:VR m v U):VR m' v U:=by
 induction x with
 |jC v W=>exact .jC v W
 |s9 y _ D B=>exact .s9 y B D
 |bool|int|string|ku|jq|pa|lO|nilFunc|nilIface=>constructor
 |ptr O=>exact .ptr (O.mW h)
 |slice l c O=>exact .slice l c (O.mW h)
 |map hb=>exact .map (by rw[h.blk]; exact hb)
 |gone Y=>rw[<-h.dm]; exact .gone (by rw[h.dead]; exact Y)
 |chan hb=>exact .chan (by rw[h.ch]; exact hb)
 |func hf y _ D _ i1 i2=>exact .func (hf.mW h) y i1 D i2
 |iface t _ B=>exact .iface t B
 |agg y _ B=>exact .agg y B
 |tuple y _ B=>exact .tuple y B
theorem iI.mW(h:m.zQ m'){y:Array Value}(x:iI m c y):iI m' c y:=iu.mono (λ_ _=>VR.mW h) x
theorem TR.mW(h:m.zQ m'){a B:Target}(x:TR m a B):TR m' a B:=by
 cases x with
 |fn D=>exact .fn (D.imp (λy=>⟨y.1.mW h,y.2.mW h⟩) id)
 |nil=>exact .nil
 |builtin a t c hm=>exact .builtin a t c (by rw[h.kL]; exact hm)
 |mark a t c O=>exact .mark a t c (by rw[h.dead]; exact O)
 |collected hb=>exact .collected (by rw[h.blk]; exact hb)
theorem DR.mW(h:m.zQ m'){a y:Deferred}(x:DR m a y):DR m' a y:=⟨x.target.mW h,x.args.mW h⟩
theorem tM.mW(h:m.zQ m'){a y:MapEntry}(x:tM m a y):tM m' a y:=⟨x.key.mW h,x.val.mW h,x.born⟩
theorem xr.mW(h:m.zQ m'){a y:Loop}(x:xr m a y):xr m' a y:=
 ⟨x.state,x.pending,λc B=>by rw[h.ok]; exact x.Sz c B,x.fn,x.tmps.mW h,x.params,x.assign,x.body,by rw[h.ok]; exact x.Sr,by rw[h.ok]; exact x.yk,by rw[h.blk]; exact x.defers⟩
theorem OR.mW(h:m.zQ m'){a B:Obj}(x:OR m a B):OR m' a B:=by
 cases x with
 |cells e f f' D=>exact .cells e f f' (D.mW h)
 |map clock O=>exact .map clock (iu.mono (λ_ _ y=>y.mW h) O)
 |number l U=>exact .number l (U.mW h)
 |stringIter s p=>exact .stringIter s p
 |jI a b c=>exact .jI a b c
 |mapIter a b c hb=>exact .mapIter a b c (by rw[h.blk]; exact hb)
 |loop W=>exact .loop (W.mW h)
 |jb=>exact .jb
 |deferred Y=>exact .deferred (iu.mono (λ_ _ y=>y.mW h) Y)
theorem qh.mW(h:m.zQ m'){T:List Frame}{os:List OF}{l:List Frame}(x:qh m T os l):qh m' T os l:=by
 induction x with
 |nil=>exact .nil
 |cons y _ B=>exact .cons (y.mW h) B
end
def Qw:Obj->Obj
 |.cells c e _=>.cells c e (0,c.size)
 |o=>o
def xa(w:World)(caps:List Nat):World:={w with heap:=w.heap.mapIdx λi o=>if i∈caps then Qw o else o}
def Ren.B8(m:Ren)(caps:List Nat):Ren:={m with loose:=λr=>m.loose r\/r∈caps}
theorem Ren.Cl(m:Ren)(caps:List Nat):m.zQ (m.B8 caps):=⟨rfl,rfl,rfl,rfl,rfl,rfl,rfl,rfl,rfl⟩
theorem D7(w:World)(caps:List Nat)(r:Nat):(xa w caps).heap[r]?=(w.heap[r]?).map λo=>if r∈caps then Qw o else o:=by
 unfold xa;simp only[Array.getElem?_mapIdx]
theorem As(w:World)(caps:List Nat):(xa w caps).heap.size=w.heap.size:=by simp[xa]
theorem tn(w:World)(h:r ∉ caps):(xa w caps).heap[r]?=w.heap[r]?:=by
 rw[D7];cases w.heap[r]?<;>simp[h]
theorem D6(w:World)(h:r∈caps){e:aN}{f:Nat×Nat}(y:w.heap[r]?=some (.cells c e f)):(xa w caps).heap[r]?=some (.cells c e (0,c.size)):=by
 rw[D7,y];simp[h,Qw]
theorem WR.B8{m:Ren}{wl w:World}(h:WR m wl w)(hc:∀r∈caps,∃c e f,wl.heap[r]?=some (.cells c e f))(hd:∀r∈caps,¬m.dead r):WR (m.B8 caps) (xa wl caps) w:=by
 have mW:=m.Cl caps
 have back:∀r c e f,(xa wl caps).heap[r]?=some (.cells c e f)->∃f0,wl.heap[r]?=some (.cells c e f0)/\(r ∉ caps->f0=f)/\(r∈caps->f=(0,c.size)):=by
  intro r c e f W;by_cases B:r∈caps
  .obtain⟨c0,e0,f0,D⟩:=hc r B;rw[D6 wl B D]at W;cases W;exact⟨f0,D,λx=>absurd B x,λ_=>rfl⟩
  .rw[tn wl B]at W;exact⟨f,W,λ_=>rfl,λx=>absurd x B⟩
 refine⟨λr r' hb=>?_,λr r' c e f c' e' f' hb h1 h2 hn=>?_,λr r' c e f c' e' f' hb h1 h2 hl=>?_,λr r' hb=>?_,?_,h.J5,h.os,λr o ho=>?_,λr r' hb hl=>?_,λr W=>?_,λr i v hv=>?_⟩
 .obtain⟨o,o',U,Y,g3⟩:=h.obj r r' hb;by_cases B:r∈caps
  .obtain⟨c0,e0,f0,D⟩:=hc r B;rw[D]at U;cases U
   cases g3 with
   |cells _ _ f' aa=>exact⟨_,_,D6 wl B D,Y,.cells _ _ _ (aa.mW mW)⟩
  .exact⟨o,o',by rw[tn wl B]; exact U,Y,g3.mW mW⟩
 .obtain⟨f0,D,x,_⟩:=back r c e f h1;have O:r ∉ caps:=λy=>hn (.inr y);rw[<-x O];exact h.fz r r' c e f0 c' e' f' hb D h2 λy=>hn (.inl y)
 .obtain⟨f0,D,x,y⟩:=back r c e f h1;by_cases B:r∈caps
  .rw[y B];exact λo ho=>⟨be _,ho⟩
  .rw[<-x B];exact h.all r r' c e f0 c' e' f' hb D h2 (hl.resolve_right B)
 .have:=h.M4 r r' hb;exact⟨by rw[As]; exact this.1,this.2⟩
 .show m.G<=(xa wl caps).heap.size;rw[As]; exact h.M2
 .obtain⟨U,Y⟩:=h.nJ r o ho;refine⟨?_,Y⟩
  have O:r ∉ caps:=λB=>by
   obtain⟨c0,e0,f0,D⟩:=hc r B;obtain⟨a,b,c,d,e,f,rfl⟩:=Y;rw[D]at U;cases U
  rw[tn wl O]; exact U
 .by_cases B:r∈caps
  .obtain⟨c0,e0,f0,D⟩:=hc r B;exact⟨_,_,_,D6 wl B D⟩
  .obtain⟨c0,e0,f0,D⟩:=h.lk r r' hb (hl.resolve_right B);exact⟨_,_,_,by rw[tn wl B]; exact D⟩
 .obtain⟨U,c0,e0,f0,g⟩:=h.dead r W;have O:r ∉ caps:=λB=>hd r B W;exact⟨U,c0,e0,f0,by rw[tn wl O]; exact g⟩
 .obtain⟨r',hb,hp⟩:=h.tI r i v hv;refine⟨r',hb,λc e f c' e' f' x U Y=>?_⟩;obtain⟨f0,D,_,_⟩:=back r c e f U;exact hp c e f0 c' e' f' x D Y
end
section
open Go.Conc
def oG:Item->Item
 |.code y=>.code (xu y)
 |.inLoop y=>.inLoop (xu y)
 |x=>x
def nz:Item->Bool
 |.code _|.inLoop _|.inBlock _=>true
 |_=>false
theorem NJ{m:Ren}:∀{k:List Item},k.all nz=true->iu (mq m) (k.map oG) k
 |[],_=>.nil
 |x::k,h=>by
  simp only[bg,aZ]at h;refine .cons ?_ (NJ h.2);cases x<;>first|exact .Fl _|exact .oS _|exact .inBlock _|(simp[nz]at h)
theorem EO{m:Ren}:∀{k k':List Item},k.all nz=true->iu (mq m) (k.map oG) k'->k'=k
 |[],_,_,h=>by cases h; rfl
 |x::k,_,O,h=>by
  simp only[bg,aZ]at O
  cases h with
  |cons hi U=>
   rw[EO O.2 U]
   cases x with
   |code y=>
    simp only[oG]at hi;generalize B:Item.code (xu y)=z at hi
    cases hi with
    |Fl W=>simp only[xu,Item.code.injEq,Code.cond.injEq]at B; rw[B.2.1]
    |code c D=>simp only[Item.code.injEq]at B; rw[<-B]at D; exact D.1.elim
    |_=>cases B
   |inLoop y=>
    simp only[oG]at hi;generalize B:Item.inLoop (xu y)=z at hi
    cases hi with
    |oS W=>simp only[xu,Item.inLoop.injEq,Code.cond.injEq]at B; rw[B.2.1]
    |inLoop c D=>simp only[Item.inLoop.injEq]at B; rw[<-B]at D; exact D.1.elim
    |_=>cases B
   |inBlock i=>
    simp only[oG]at hi;cases hi;rfl
   |_=>simp[nz]at O
theorem sG(id:Nat):∀(k:List Item),aE id (k.map oG)=(aE id k).map (·.map oG)
 |[]=>rfl
 |x::k=>by
  cases x with
  |inBlock i=>
   simp only[bl,oG];unfold aE;split
   .rfl
   .exact sG id k
  |_=>simp only[bl,oG]; unfold aE; exact sG id k
theorem exitTo_plain{id:Nat}:∀{k k':List Item},k.all nz=true->aE id k=some k'->k'.all nz=true
 |[],_,_,e=>by cases e
 |x::k,k',h,e=>by
  simp only[bg,aZ]at h
  cases x with
  |inBlock i=>
   unfold aE at e;split at e
   .cases e; exact h.2
   .exact exitTo_plain h.2 e
  |_=>unfold aE at e; exact exitTo_plain h.2 e
section
variable {P:Program} {E:Env P} {fn:aF} {tm:Array Value} {os:List OF} {wl:World} {V:List (Nat×Option (List Value))} {k:List Item}
theorem lE.Rx{S:LS}(hk:k.all nz=true)(hf:wE E os)(U:S.cs=[door P])(W:S.fr=jx fn tm (k.map oG))(h:gP E (⟨fn,tm,k⟩::os) S.w V):lE E S os V:=by
 intro m Pd ρ gs w sl t fr' cs' Tc Y aa ab B D h0;have hF:=D.rX;rw[U]at D;have O:=vU hf B
 obtain⟨rfl,y⟩:cs'=Tc/\fr'.kind=.normal:=by
  cases D with
  |one _ _ hb _=>
   refine⟨rfl,?_⟩;rcases hb with⟨x,_⟩|⟨_,ps,e,x⟩
   .exact x
   .exact absurd x (O ps e)
  |cons _ _ _ hx=>cases hx
 rw[W]at hF;obtain⟨f1,f2,f3,f4,f5,f6⟩:=hF;obtain⟨ac,ad,ae,af,ag,ah,ai⟩:=fr';simp only[jx]at f1 f2 f3 f4 f5 f6 y;have:=EO hk f3;subst this f1 y;cases f4;cases f5;cases f6;exact h m Pd ρ gs w sl t _ _ Y aa ab (.cons (o:=⟨_,tm,_⟩) f2 B) h0
theorem gP.code{c:Code}{Q:Exit->Act->World->Prop}(ad:jy E.ok c)(hk:k.all nz=true)(hf:wE E os)(h:∀τ,Bl τ wl->c.wp P Q ⟨tm,[]⟩ (tp wl τ))
  (hn:∀e a w',Q e a w'->a.defers=[]/\∃k',((e=.normal/\k'=k)\/∃id,e=.exit id/\aE id k=some k')/\gP E (⟨fn,a.tmps,k'⟩::os) w' V):gP E (⟨fn,tm,.code c::k⟩::os) wl V:=by
 have hS:lE E ⟨jx fn tm (.code c::k.map oG),[door P],wl⟩ os V:=by
  let D:LS->Prop:=λS=>S.cs=[door P]/\∃O k',k'.all nz=true/\S.fr=jx fn O (k'.map oG)/\gP E (⟨fn,O,k'⟩::os) S.w V;refine lE.pU (Stop:=λS=>∃τ,D (S.on τ)) (λS τ ⟨y,h⟩=>⟨y,h⟩) (λy Y=>?_) λS' ⟨y,hc,O,k',h1,h2,h3⟩=>?_
  .obtain⟨e,a,w',hq,B⟩:=h y Y (jx fn #[] []) (k.map oG) [door P];obtain⟨hd,k',ae,hW⟩:=hn e a w' hq;obtain⟨U,aj⟩:=a;simp only at hd hW;subst hd
   have W:Steps P (aI (jx fn tm (.code c::k.map oG)) [door P] (tp wl y)) (aI (jx fn U (k'.map oG)) [door P] w')/\k'.all nz=true:=by
    rcases ae with⟨rfl,rfl⟩|⟨id,rfl,he⟩
    .exact⟨B,hk⟩
    .exact⟨B _ (by rw[sG,he]; rfl),exitTo_plain hk he⟩
   obtain⟨⟨n,W⟩,af⟩:=W;exact⟨n,⟨jx fn U (k'.map oG),[door P],w'⟩,W,⟨w'.tape,rfl,U,k',af,rfl,hW⟩,by simp⟩
  .exact lE.tape (τ:=y) (lE.Rx h1 hf hc h2 h3)
 intro m Pd ρ gs w sl t fr' cs' aa ag ah ab h0;obtain⟨ai,l',e,ht,ac⟩:=ab.head;cases e;exact hS m Pd ρ gs w sl t _ _ cs' aa ag ah ac (iy.one (fr:=jx fn tm (.code c::k.map oG)) (fr':=jx fn ai (.code c::k)) ⟨rfl,ht,.cons (.code c (by rw[aa.RO]; exact ad)) (NJ hk),.nil,.run,.none⟩ rfl (.inl ⟨rfl,vU hf ac⟩) rfl) h0
end
end
variable {K:(World->Prop)->Act->Prop} {a:Act} {listed:Array Bool} {fuel i:Nat} {o oi:Oper} {v:Value} {w:World} {C:World->Prop}
namespace D
open Go.RowKit
def kC(y h:World):Prop:=Below y.heap.size y h/\y.drawn<=h.drawn
theorem kC.refl(y:World):kC y y:=⟨bt _ _,bc _⟩
theorem kC.trans{a b c:World}(h:kC a b)(y:kC b c):kC a c:=⟨bu h.1 (bx y.1 (bw h.1)),Nat.le_trans h.2 y.2⟩
theorem kC.alloc(y:World)(o:Obj):kC y (y.alloc o):=⟨(bt _ _).alloc (bc _) o,bc _⟩
def iZ(C:World->Prop):Prop:=∀y h,C y->kC y h->C h
theorem j5(w:World):iZ (kC w):=λ_ _ h y=>h.trans y
theorem iZ.and{D:World->Prop}(h:iZ C)(W:iZ D):iZ (λy=>C y/\D y):=λy B O U=>⟨h y B O.1 U,W y B O.2 U⟩
section
variable {P:Program} {ops:Array Oper} {md:Region.Mode} {Q:Exit->Act->World->Prop}
def ik(P:Program)(w:World)(B:Value->World->Prop):Result Go.Next->Prop
 |.ok (.value u) w'=>B u w'
 |.ok .skip w'=>B b9 w'
 |.ok (.enter f args) w'=>w'=w/\aK P f args w (λe h=>∃v,e=.returned v/\B v h)
 |_=>False
def jh(P:Program)(o:Oper)(a:Act)(w:World)(B:Value->World->Prop):Prop:=ik P w B ((a9 a.eval o).run P w)
theorem ik.mono{B y:Value->World->Prop}(h:∀v w,B v w->y v w):∀{r:Result Go.Next},ik P w B r->ik P w y r:=by
 intro r hh
 cases r with
 |ok n w'=>
  cases n<;>simp only[ik]at hh⊢
  case value u=>exact h _ _ hh
  case skip=>exact h _ _ hh
  case enter f args=>exact⟨hh.1,hh.2.mono λe w'' ⟨v,he,hb⟩=>⟨v,he,h _ _ hb⟩⟩
 |halt x w'=>simp only[ik]at hh
def vV(P:Program)(ops:Array Oper)(i:Nat)(C:World->Prop)(K:(World->Prop)->Act->Prop)(a:Act):Prop:=
 match ops[i]? with
 |none=>K C a
 |some o=>if az o (a8 ops a.tmps)=true then
   ∃(X:Type)(h:X->World->Prop)(B:X->Value),(∀x,iZ (h x))/\(∀x y,h x y->C y)/\(∀y,C y->jh P o a y (λv D=>kC y D/\∃x,v=B x/\h x D))/\∀x,K (h x) (a.put o.dst (B x))
  else K C (a.put o.dst b9)
theorem A5{K':(World->Prop)->Act->Prop}(h:∀C a,K C a->K' C a)(y:vV P ops i C K a):vV P ops i C K' a:=by
 unfold vV at *;split
 .rename_i B; simp only[B]at y; exact h _ _ y
 .rename_i o B;simp only[B]at y;split
  .rename_i D;simp only[D,if_true]at y;obtain⟨X,O,U,W,Y,h3,h4⟩:=y;exact⟨X,O,U,W,Y,h3,λx=>h _ _ (h4 x)⟩
  .rename_i D; simp only[D]at y; exact h _ _ y
def WX(P:Program)(md:Region.Mode)(ops:Array Oper)(Q:Exit->Act->World->Prop):Nat->Array Bool->(World->Prop)->Act->Prop
 |0,listed,C,a=>ay md ops listed=[]/\∀y,C y->Q .normal a y
 |fuel+1,listed,C,a=>
  (ay md ops listed=[]->∀y,C y->Q .normal a y)/\
  ∀i∈ay md ops listed,vV P ops i C (λh B=>WX P md ops Q fuel (listed.setIfInBounds i true) h B) a
theorem sS{K':Act->World->Prop}(hC:C w)(h:∀C a w,C w->K C a->K' a w)(hh:vV P ops i C K a):wpOp P ops Q i K' a w:=by
 unfold vV at hh;unfold wpOp;split
 .rename_i B; simp only[B]at hh; exact h _ _ _ hC hh
 .rename_i o B;simp only[B]at hh;split
  .rename_i D;simp only[D,if_true]at hh;obtain⟨X,Cx,vx,_,_,U,O⟩:=hh;have h5:=U w hC;refine .inl ?_;unfold jh at h5;unfold b8;generalize (a9 a.eval o).run P w=r at *
   cases r with
   |ok n w'=>
    cases n<;>simp only[ik]at h5<;>simp only[b7]
    case value u=>
     obtain⟨_,x,rfl,y⟩:=h5;exact h _ _ _ y (O x)
    case skip=>
     obtain⟨_,x,e,y⟩:=h5;rw[e];exact h _ _ _ y (O x)
    case enter f args=>
     obtain⟨W,Y⟩:=h5;rw[W];refine Y.mono λe aa he=>?_;obtain⟨v,rfl,_,x,rfl,y⟩:=he;exact h _ _ _ y (O x)
   |halt x w'=>simp only[ik]at h5
  .rename_i D; simp only[D]at hh; exact h _ _ _ hC hh
theorem oH:∀(fuel:Nat)(listed:Array Bool)(C:World->Prop)(a:Act)(w:World),C w->WX P md ops Q fuel listed C a->wpAny P md ops Q fuel listed a w
 |0,_,_,_,w,y,h=>⟨h.1,h.2 w y⟩
 |fuel+1,_,_,_,w,y,h=>⟨λD=>h.1 D w y,λi hi=>sS y (λO U w' B W=>oH fuel _ O U w' B W) (h.2 i hi)⟩
def iM(P:Program)(ops:Array Oper)(C:World->Prop)(o:Oper)(v:Value)(a:Act):Prop:=
 (az o (a8 ops a.tmps)=true/\∀y,C y->jh P o a y (λu h=>kC y h/\u=v))\/
 (az o (a8 ops a.tmps)=false/\v=b9)
theorem iM.sub{B:World->Prop}(h:iM P ops C o v a)(D:∀y,B y->C y):iM P ops B o v a:=by
 rcases h with⟨O,U⟩|h
 .exact .inl ⟨O,λy W=>U y (D y W)⟩
 .exact .inr h
theorem iM.of_same{h:Act}(y:iM P ops C o v a)(B:a9 h.eval o=a9 a.eval o)
  (D:az o (a8 ops h.tmps)=az o (a8 ops a.tmps)):iM P ops C o v h:=by
 unfold iM jh at *;rw[B,D];exact y
theorem iM.SH(hi:ops[i]?=some o)(hC:iZ C)(B:iM P ops C o v a)(h:K C (a.put o.dst v)):vV P ops i C K a:=by
 unfold vV;simp only[hi];rcases B with⟨D,U⟩|⟨D,rfl⟩
 .simp only[D,if_true];exact⟨Unit,λ_=>C,λ_=>v,λ_=>hC,λ_ _ h=>h,λy B=>(U y B).mono λu W ⟨O,Y⟩=>⟨O,(),Y,hC y W B O⟩,λ_=>h⟩
 .simp only[D,aY,if_false]; exact h
theorem Ec{j:Nat}{B:Oper}(hj:ops[j]?=some B)(O:oi.apart ops B=true)
  (U:∀cs b,oi.op≠.select cs b) (W:∀cs b,B.op≠.select cs b) {K:(World->Prop)->Act->Prop} {a:Act} (hC:iZ C)
  (D:iM P ops C oi v a) (h:vV P ops j C K (a.put oi.dst v)) :
  vV P ops j C (λY a'=>iZ Y/\iM P ops Y oi v a'/\K Y (a'.put oi.dst v)) a:=by
 obtain⟨h1,h2,h3⟩:=b6 O
 have mT:∀(C:World->Prop)(a:Act),iM P ops C oi v a->∀u,iM P ops C oi v (a.put B.dst u):=λC a D u=>
  D.of_same (aC oi U a B.dst u h3) (aB oi a B.dst u h3)
 unfold vV at *;simp only[hj]at *;rw[aB B a oi.dst v h1]at h;split
 .rename_i hw;simp only[hw,if_true]at h;obtain⟨X,Cx,vx,q1,q2,q3,q4⟩:=h;refine⟨X,Cx,vx,q1,q2,λy aa=>?_,λx=>⟨q1 x,mT _ _ (D.sub (q2 x)) _,by rw[<-Act.put_comm a v (vx x) h2]; exact q4 x⟩⟩;have:=q3 y aa;unfold jh at *;rwa [aC B W a oi.dst v h1]at this
 .rename_i hw;simp only[hw]at h;exact⟨hC,mT _ a D _,by rw[<-Act.put_comm a v b9 h2]; exact h⟩
theorem vv(hi:ops[i]?=some oi)(O:∀(j:Nat)(o:Oper)cs b,ops[j]?=some o->o.op≠.select cs b) :
  ∀(fuel:Nat)(listed:Array Bool)(C:World->Prop)(a:Act),
   (∀j W,ops[j]?=some W->j≠i->listed.getD j true=false->(∀e∈W.after,a2 md e=true->e.on≠i)->oi.apart ops W=true)->
   i∈ay md ops listed->iZ C->iM P ops C oi v a->
   WX P md ops Q fuel (listed.setIfInBounds i true) C (a.put oi.dst v)->WX P md ops Q (fuel+1) listed C a:=by
 intro fuel
 induction fuel with
 |zero=>
  intro listed C a _ Y hC hy H;refine⟨λh=>(by rw[h]at Y; cases Y),λj hj=>?_⟩;by_cases y:j=i
  .subst y; exact hy.SH hi hC H
  .have:=aA hj y;rw[H.1]at this;cases this
 |succ fuel ih=>
  intro listed C a B Y hC hy H;refine⟨λh=>(by rw[h]at Y; cases Y),λj hj=>?_⟩;by_cases y:j=i
  .subst y; exact hy.SH hi hC H
  .have h1:=H.2 j (aA hj y);obtain⟨U,W,aa,jO⟩:=_root_.Go.mem_ready.1 hj
   have ab:∀e∈W.after,a2 md e=true->e.on≠i:=λe he hb ae=>by
    have h1:=jO e he hb;have h0:=(_root_.Go.mem_ready.1 Y).1;rw[ae]at h1;rcases bd i listed.size with h'|h'
    .simp[h']at h0 h1; rw[h0]at h1; cases h1
    .simp[aP h']at h1
   have h2:=Ec aa (B j W aa y U ab) (λcs b=>O i oi cs b hi) (λcs b=>O j W cs b aa) hC hy h1
   have D:∀k ok,ops[k]?=some ok->k≠i->(listed.setIfInBounds j true).getD k true=false->
     (∀e∈ok.after,a2 md e=true->e.on≠i)->oi.apart ops ok=true:=λk ok hk af ac ag=>by
    refine B k ok hk af ?_ ag;by_cases ad:j=k
    .subst ad; exact U
    .rw[aD true ad]at ac; exact ac
   refine A5 (λC' a' h3=>ih (listed.setIfInBounds j true) C' a' D (aA Y (Ne.symm y)) h3.1 h3.2.1 ?_) h2;rw[aR _ _ y];exact h3.2.2
theorem ic(i:Nat)(v:Value)(B:∀y,C y->jh P oi a y (λu D=>kC y D/\u=v))
  (h:WX P md ops Q fuel (listed.setIfInBounds i true) C (a.put oi.dst v)) (hi:ops[i]?=some oi:=by rfl)
  (O:a5 ops=true:=by kernel_rfl) (U:a6 md ops listed i=true:=by kernel_rfl) (W:(ay md ops listed).contains i=true:=by kernel_rfl) (hC:iZ C:=by exact j5 _)
  (Y:az oi (a8 ops a.tmps)=true:=by rfl):WX P md ops Q (fuel+1) listed C a:=
 vv hi (a3 O) fuel listed C a (a4 hi U) (by simpa using W) hC (.inl ⟨Y,B⟩) h
theorem MZ{rs:List Nat}(B:ay md ops listed=rs)(y:rs≠[])
  (h:∀i∈rs,vV P ops i C (λD O=>WX P md ops Q fuel (listed.setIfInBounds i true) D O) a):WX P md ops Q (fuel+1) listed C a:=
 ⟨λU=>absurd (B▸U) y,B▸h⟩
theorem tD(B:ay md ops listed=[])(h:∀y,C y->Q .normal a y):∀fuel,WX P md ops Q fuel listed C a
 |0=>⟨B,h⟩
 |_+1=>⟨λ_=>h,by rw[B]; simp⟩
theorem Jz(U:Nat->Value)(D:Nat->World->Prop)(hi:ops[i]?=some oi)(hC:iZ C)(Y:∀g,iZ (D g))
  (hw:az oi (a8 ops a.tmps)=true) (hy:∀y,C y->jh P oi a y (λv O=>kC y O/\v=U y.heap.size/\D y.heap.size O))
  (h:∀g,K (λy=>C y/\D g y) (a.put oi.dst (U g))):vV P ops i C K a:=by
 unfold vV;simp only[hi,hw,if_true];exact⟨Nat,λg y=>C y/\D g y,U,λg=>hC.and (Y g),λ_ _ h=>h.1,λy B=>(hy y B).mono λv O ⟨W,h2,h3⟩=>⟨W,y.heap.size,h2,hC y O B W,h3⟩,h⟩
theorem n8{id:Nat}(hm:P.follows .mixedOrders=true)
  (h:WX P .any ops Q ops.size (aO ops.size false) (kC w) a):(Code.region id ops true).wp P Q a w:=
 aL hm (oH _ _ _ _ _ (show kC w {w with drawn:=w.drawn+1}from⟨⟨rfl,rfl,rfl,bc _,λ_ _=>rfl⟩,bf _⟩) h)
theorem k7(a:Addr)(v:Value):iZ (λy=>y.cell? a=some v):=λy B h D=>by
 have hb:B.heap[a.block]?=y.heap[a.block]?:=bv D.1 _ (bz y a h);show B.cell? a=some v;rw[b0 hb]; exact h
end
theorem drawn_setCell(w:World)(a:Addr)(v:Value):(w.setCell a v).drawn=w.drawn:=by
 unfold b1;split <;>(try split) <;>(try split)<;>rfl
theorem zK(s:ByteArray)(w:World)(hs:s.size<=1099511627776) :
  aK prog 50 #[.string s] w λe w'=>e=.returned (.string ⟨(iD s.data.toList).toArray⟩)/\kC w w':=by
 have aa:=Lib.run_convert_string_bytes (P:=prog) w 9 60 5 s underlying9 underlying60 underlying5;go_enter func50,ntmps50;obtain⟨U,y⟩:∃U,Lib.bytesWorld w 5 s=U:=⟨_,rfl⟩
 have hb0:Below w.heap.size w U:=by
  subst y;exact⟨rfl,rfl,rfl,by rw[Lib.bytesWorld_size]; omega,λk hk=>Lib.bytesWorld_at_old w _ s k hk⟩
 have hd0:w.drawn<=U.drawn:=by subst y; exact bf _
 have hz0:w.heap.size<U.heap.size:=by subst y; rw[Lib.bytesWorld_size]; omega
 have hA0:rK U w.heap.size (ld s.data.toList 0):=by
  rw[yi];intro j hj;have ab:j<s.size:=by simpa using hj
  subst y;refine⟨?_,?_⟩
  .rw[Lib.bytesWorld_cell w _ s j ab,List.getD_eq_getElem?_getD,List.getElem?_eq_getElem hj]; rfl
  .simp[World.frozen?,Lib.bytesWorld_at_new];intro h;simp[Lib.bytesCells]at h;omega
 rw[y]at aa;clear y;go_wp2;go_loopw [10] (λi wr=>∃k:Nat,k<=s.size/\i=.int .i64 k/\rK wr w.heap.size (ld s.data.toList k)/\Below w.heap.size w wr/\w.heap.size<wr.heap.size/\w.drawn<=wr.drawn) (λi _=>s.size-(intOf i).toNat)
 case atStart=>exact⟨0,be _,rfl,hA0,hb0,hz0,hd0⟩
 case round=>
  obtain⟨k,hk,rfl,W,hb,hz,hd⟩:=hrel;have HD:Hid (w.drawn<=wr.drawn):=hd;clear hd;by_cases ac:k<s.size
  .have D:k<s.data.toList.length:=by simpa using ac
   obtain⟨hc,hf⟩:=W k (by rw[u0]; exact D);rw[rQ _ _ D]at hc;have HE:Hid (ld s.data.toList (k+1)=(ld s.data.toList k).set k (G3 s.data.toList[k])):=xx _ _ D;have HG:Hid (s.data.toList.length=s.size):=by show _=_; simp
   have Y:Hid ((ld s.data.toList k)[k]'(by rw[u0]; exact D)=s.data.toList[k]):=rQ _ _ D;have HA:Hid (rK wr w.heap.size (ld s.data.toList k)):=W;generalize s.data.toList[k]=c at *;clear W;by_cases B:65<=c.toNat/\c.toNat<=90
   .have h1:65<=(c.toNat:Int):=by omega
    have h2:(c.toNat:Int)<=90:=by omega
    have HL:Hid (((G3 c).toNat:Int)=(c.toNat:Int)+32):=Ka _ B;clear B;go_wp2;go_roundw
    case rel=>exact⟨k+1,by omega,by go_num,by rw[HE.out]; exact HA.out.set k _ _ (by rw[HL.out]; go_num),Below.setCell hb (bc _) _,by simpa[b1]using hz,by rw[drawn_setCell]; exact HD.out⟩
    case measure=>simp[intOf]; omega
   .have HL:Hid (G3 c=c):=JW _ B;have ad:(c.toNat:Int)<65\/90<(c.toNat:Int):=by omega
    have HS:Hid (ld s.data.toList (k+1)=ld s.data.toList k):=by
     show _=_;rw[HE.out,HL.out,<-Y.out];simp
    clear B;rcases ad with h1|h1
    all_goals
     go_wp2;go_roundw
     case rel=>exact⟨k+1,by omega,by go_num,by rw[HS.out]; exact HA.out,hb,hz,HD.out⟩
     case measure=>simp[intOf]; omega
  .have ek:k=s.size:=by omega
   subst ek;have D:(iD s.data.toList).length=s.size:=by rw[j9]; simp
   have e1:ld s.data.toList s.size=iD s.data.toList:=by
    have:s.size=s.data.toList.length:=by simp
    rw[this,zM]
   rw[e1]at W
   have O:=run_convert_bytes_back (P:=prog) wr 60 9 5 ⟨w.heap.size,0,none⟩ (grownCap w s.size 0 5) (iD s.data.toList) underlying60 underlying5 underlying9 (λj hj=>by
    have:=(W j hj).1
    have e2:(⟨w.heap.size,0,none⟩:Addr).add j=⟨w.heap.size,j,none⟩:=by
     unfold Addr.add;split
     .rename_i h; rw[h]
     .simp
    rw[e2]; exact this)
   rw[D]at O;clear D e1;go_wp2;go_ret;exact⟨rfl,hb,HD.out⟩
end D
end Go.Proofs.YtocbogeoffeolaaGreatDoor
