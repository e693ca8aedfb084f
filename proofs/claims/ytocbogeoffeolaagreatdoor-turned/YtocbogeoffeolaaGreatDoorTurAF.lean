import Derived.Test.YtocbogeoffeolaaGreatDoorTurAE
import Derived.DyingOn
import Derived.Conc.Beside
import Derived.Conc.CrowdComm
set_option linter.all false
set_option maxHeartbeats 8000000
set_option maxRecDepth 1000000
open Array renaming getElem?_setIfInBounds_ne->bk,getElem?_eq_getElem->bm,getElem?_eq_some_iff->bn,empty_append->bo,mem_iff_getElem->bp,getElem?_setIfInBounds_self_of_lt->bq,append_empty->br,getD_eq_getD_getElem?->bs,getElem?_map->bt,mem_append->bu,swapAt!->bv
open Go renaming stepG->bw,communicate->bx,doReturn->bz,unwind->b4,Trace->b5,tryRecover->b6,ways->b7,lone->b8,runN->b9,step_lone_ended->bA,callDeferred->bB,partners->bC,endThrow->bD,step_lone_go->bE,goexitEntry->bF,seen->bG,oneG->bH,FuncId->bI,yielded->bJ,offeredValue->bK,dieOf->bL,runT->bM,TypeId->bN,HappensBefore->bO,resolve->bP,stepT->bQ,commResult->bR,Race->bS
open Go.Conc renaming offersAt_of_not_blocked->bT,mem_ofEvents->bU,served->bV,rcase->bW,crowd->bX,offersAt->bY,touchAt->bZ,runT_crowd_go->cb,scase->cd,getElem?_stand->ce,getElem?_append_old->cf,offersAt_ph->cg,ofEvents_eq->ci,noRace_append->cj,offersAt_parked_send->ck,Knows->cm,lt_size_of_getElem?->cn,crowd_pick->cp,knows_own->cq,finishPartner_at->cr,runT_crowd_comm->cu,mem_of_getElem?->cv,again_running->cw,woken_quitsD->cy,partners_one->cz,partners_nil->c2,illMade->c3,crowd_waits->c4,woken->c5,awake->c6
open Go.stepG renaming apply->c7,exec->c8
open Nat renaming lt_of_lt_of_le->c9,le_refl->cA,le_trans->cB,eq_zero_or_pos->cC,exists_eq_add_of_le->cD,lt_of_succ_le->cE,le_of_succ_le->cF,le_succ->cG
open Go.ConcN renaming upd_same->cH,upd_ne->cI,upd->cJ
open Go.GStep renaming after->cK
open Go.Sem renaming run->cL,runT_fst->cM,run_bind'->cN,bind->cO,runT->cP
open List renaming not_mem_nil->cQ,mem_cons->cR,getElem?_cons_zero->cS,mem_iff_getElem?->cT,getElem?_toArray->cU,mem_of_getElem?->cV,mem_toArray->cW,mem_filter->cX,mem_map->cY
open Go.MemOp renaming ofEvents->cZ
open Option.some renaming injEq->db,inj->dc
open Go.Frame renaming catches->de,eval->dg,pos->di,raise->dk,round->dr,oper?->ee
open Go.MemAct renaming ofEvent->ef,touch?->ek
open Classical renaming byContradiction->en,choose->et,choose_spec->ew,em->ex
open Bool renaming false_eq_true->eC,not_eq_true->fa
open Go.Stepped.next renaming injEq->fb
open Go.Goroutine renaming callers->fd,frame->fk,again->fm,status->fs,finishComm->fB,dyingOn->ga,canRun->gc
open Ne renaming symm->gd
open Go.Question renaming forced->ge
open Go.Instr renaming endRound->gj,beginRound->gn
open Option renaming map_some->gt,getD_some->gv
open Go.Trace renaming act?->gx,g?->gy
open Go.Region renaming wanted->g8,schedule->g9
open Go renaming undef->gA
namespace Go.Proofs.YtocbogeoffeolaaGreatDoor
section
open Go.Conc
variable {P:Program} {m:Ren} {s:Sem Go.Next} {α β:Type} {w w' w₁:World}
def tp(w:World)(τ:Nat->Question->Nat):World:={w with tape:=τ}
def Cn{α:Type}:Result α->World
 |.ok _ w=>w
 |.halt _ w=>w
def xm{α:Type}(P:Program)(s:Sem α)(w:World)(τ:Nat->Question->Nat):Result α->Prop
 |.ok a w₁=>s.run P (tp w τ)=.ok a (tp w₁ τ)
 |.halt (.panic v) w₁=>s.run P (tp w τ)=.halt (.panic v) (tp w₁ τ)
 |_=>True
def ux(τ:Nat->Question->Nat)(w w₁:World):Prop:=∀i,w.drawn<=i->i<w₁.drawn->τ i=w.tape i
def Q8{α:Type}(P:Program)(s:Sem α)(w:World):Prop:=
 w.drawn<=(Cn (s.run P w)).drawn/\(Cn (s.run P w)).tape=w.tape/\∀τ,ux τ w (Cn (s.run P w))->xm P s w τ (s.run P w)
def Loc{α:Type}(P:Program)(s:Sem α)(w:World):Prop:=(∃x w₁,s.run P w=.halt x w₁/\jK x)\/Q8 P s w
theorem Loc.step{s:Sem α}{k:Sem α}(h:Loc P k w₁)(e:s.run P w=k.run P w₁)(Y:w₁.drawn=w.drawn)(ht:w₁.tape=w.tape)(O:∀τ,s.run P (tp w τ)=k.run P (tp w₁ τ)):Loc P s w:=by
 rcases h with⟨x,jn,U,W⟩|⟨U,W,h3⟩
 .exact .inl ⟨x,jn,e.trans U,W⟩
 .refine .inr ⟨by rw[e,<-Y]; exact U,by rw[e,W,ht],λτ y=>?_⟩;rw[e]at y⊢;have:=h3 τ λi a b=>by rw[ht]; exact y i (Y▸a) b
  revert this
  cases k.run P w₁ with
  |ok a w2=>intro h; show s.run P _=_; rw[O]; exact h
  |halt x w2=>cases x<;>intro h<;>first|trivial|(show s.run P _=_; rw[O]; exact h)
theorem dv.loc{RA:Ren->α->β->Prop}{s:Sem α}{s':Sem β}(h:dv P RA m s s'):∀(w w':World),WR m w w'->Loc P s w:=by
 induction h with
 |dy hd=>exact λw w' _=>.inl (hd.run w)
 |pure hr=>exact λw w' _=>.inr ⟨cA _,rfl,λτ _=>rfl⟩
 |@load m a a' k k' ha _ U=>
  intro w w' O
  cases hc:w.cell? a with
  |some v=>
   obtain⟨v',ai,hv⟩:=O.cell ha hc;refine(U v v' hv w w' O).step (by simp only[cL,hc]) rfl rfl λτ=>?_;have aa:(tp w τ).cell? a=some v:=hc;simp only[cL,aa]
  |none=>
   obtain⟨y,hy⟩:=O.MZ ha hc P (Mode.plain==.atomic);exact .inl ⟨.stuck y,w,by simp only[cL,hc,hy],trivial⟩
 |@store m a a' v v' k k' ha hv _ U=>
  intro w w' O;by_cases W:∃c,v=.agg c
  .obtain⟨c,rfl⟩:=W;exact .inl ⟨.stuck "store: not the value of one cell",w,by simp only[cL],trivial⟩
  by_cases h2:∃c,v=.tuple c
  .obtain⟨c,rfl⟩:=h2;exact .inl ⟨.stuck "store: not the value of one cell",w,by simp only[cL],trivial⟩
  have e1:∀w:World,(Sem.store Mode.plain a v k).run P w=match w.cell? a with
    |some _=>if w.frozen? a then .halt (.unsupported (.unsafePointer "a write to bytes that a string shares")) w else k.run P (w.setCell a v)
    |none=>match w.farStore P a v (Mode.plain==.atomic)with
     |.ok (w,_)=>k.run P w
     |.error h=>.halt h w:=by
   intro w;rw[cL]
   .rfl
   .exact λc e=>W ⟨c,e⟩
   .exact λc e=>h2 ⟨c,e⟩
  cases hc:w.cell? a with
  |none=>
   obtain⟨y,hy⟩:=O.Jf ha hc P v (Mode.plain==.atomic);exact .inl ⟨.stuck y,w,by rw[e1,hc]; simp only[hy],trivial⟩
  |some u=>
   by_cases hf:w.frozen? a=true
   .exact .inl ⟨.unsupported (.unsafePointer "a write to bytes that a string shares"),w,by rw[e1,hc]; simp only[hf,if_true],trivial⟩
   .refine(U (w.setCell a v) _ (O.setCell ha hv λag=>by cases v<;>first|exact ag.elim|exact W ⟨_,rfl⟩|exact h2 ⟨_,rfl⟩)).step (by rw[e1,hc]; simp only[hf,if_false,eC]) rfl rfl λτ=>?_;have aa:(tp w τ).cell? a=some u:=hc;have ah:¬(tp w τ).frozen? a=true:=hf;rw[e1,aa];simp only[ah,if_false,eC];rfl
 |@new m o o' k k' ho hc _ U=>
  intro w w' O;have ab:=Ren.uV O.gE O.lF O.QU;have ac:(m.ext w.heap.size w'.heap.size O.gE O.lF O.QU).blk w.heap.size=some w'.heap.size:=by simp[Ren.ext]
  exact(U _ _ _ ab ac (by simp[Ren.ext]) {w with heap:=w.heap.push o} _ (O.push ho hc)).step rfl rfl rfl λτ=>rfl
 |@pq m c b x s r t c' b' x' s' r' t' k k' aj _ U=>
  intro w w' O;have ab:=Ren.wW O.qd O.nh;have ac:(m.sw w.heap.size w'.heap.size O.qd O.nh).ch w.heap.size=some w'.heap.size:=by simp[Ren.sw]
  exact(U _ _ _ ab ac {w with heap:=w.heap.push (.chan c b x s r t)} _ (O.Mh (.chan c b x s r t) (.chan c' b' x' s' r' t'))).step rfl rfl rfl λτ=>rfl
 |shape hb _ U=>exact λw w' O=>(U _ w w' O).step rfl rfl rfl λτ=>rfl
 |@freeze m a a' n k k' ha hn _ U=>
  intro w w' O;refine(U (w.freeze a n) _ (O.freeze ha hn n)).step rfl (by unfold World.freeze; split<;>rfl) (by unfold World.freeze; split<;>rfl) λτ=>?_;have:(tp w τ).freeze a n=tp (w.freeze a n) τ:=by unfold World.freeze; split<;>rfl
  simp only[cL,this]
 |frozen ha hn _ U=>exact λw w' O=>(U _ w w' O).step rfl rfl rfl λτ=>rfl
 |getObj hb _ U=>
  intro w w' O;obtain⟨x,x',W,h2,ho⟩:=O.obj _ _ hb;have Y:∀τ,(tp w τ).heap[_]?=some x:=λ_=>W
  cases ho with
  |cells=>exact .inl ⟨.stuck "getObj: a row of cells",w,by simp only[cL,W],trivial⟩
  |map clock he=>exact(U _ _ (.map clock he) w w' O).step (by simp only[cL,W]) rfl rfl λτ=>by simp only[cL,Y]
  |number l hx=>exact(U _ _ (.number l hx) w w' O).step (by simp only[cL,W]) rfl rfl λτ=>by simp only[cL,Y]
  |stringIter s p=>exact(U _ _ (.stringIter s p) w w' O).step (by simp only[cL,W]) rfl rfl λτ=>by simp only[cL,Y]
  |fT a b c=>exact(U _ _ (.fT a b c) w w' O).step (by simp only[cL,W]) rfl rfl λτ=>by simp only[cL,Y]
  |mapIter a b c hm=>exact(U _ _ (.mapIter a b c hm) w w' O).step (by simp only[cL,W]) rfl rfl λτ=>by simp only[cL,Y]
  |loop hl=>exact(U _ _ (.loop hl) w w' O).step (by simp only[cL,W]) rfl rfl λτ=>by simp only[cL,Y]
  |eR=>exact(U _ _ .eR w w' O).step (by simp only[cL,W]) rfl rfl λτ=>by simp only[cL,Y]
  |deferred hd=>exact(U _ _ (.deferred hd) w w' O).step (by simp only[cL,W]) rfl rfl λτ=>by simp only[cL,Y]
 |@setObj m r r' o o' k k' hb ho hc _ U=>
  intro w w' O;obtain⟨x,x',W,h2,hx⟩:=O.obj _ _ hb;have Y:∀τ,(tp w τ).heap[r]?=some x:=λ_=>W;rcases ex (m.loose r)with ad|ad
  .obtain⟨c,e,f,hy⟩:=O.lk _ _ hb ad;exact .inl ⟨.stuck "setObj: a row of cells",w,by simp only[cL,hy],trivial⟩
  have ae:=O.turn hb ho (λc e f c' e' f' e1 _=>absurd e1 (hc c e f)) (λh=>absurd h ad) (λc e f c' e' f' e1 _=>absurd e1 (hc c e f));have fin:=U {w with heap:=w.heap.setIfInBounds r o} _ ae
  cases hx with
  |cells=>exact .inl ⟨.stuck "setObj: a row of cells",w,by simp only[cL,W],trivial⟩
  |_=>
   refine fin.step ?_ rfl rfl λτ=>?_
   .simp only[cL,W]
   .simp only[cL,Y];rfl
 |@choose m q k k' _ U=>
  intro w w' O;by_cases hf:q.forced=true
  .exact(U 0 w w' O).step (by simp only[cL,hf,if_true]) rfl rfl λτ=>by simp only[cL,hf,if_true]
  .have e:(Sem.choose q k).run P w=(k (q.cut (w.tape w.drawn q))).run P {w with drawn:=w.drawn+1}:=by simp only[cL,hf,if_false,eC]
   rcases U (q.cut (w.tape w.drawn q)) {w with drawn:=w.drawn+1} w' (O.draw _ w'.drawn)with⟨x,jn,W,h2⟩|⟨W,h2,h3⟩
   .exact .inl ⟨x,jn,e.trans W,h2⟩
   .refine .inr ⟨by rw[e]; exact cB (cG _) W,by rw[e,h2],λτ af=>?_⟩;rw[e]at af⊢;have e0:τ w.drawn=w.tape w.drawn:=af _ (cA _) (cE W)
    have e2:(Sem.choose q k).run P (tp w τ)=(k (q.cut (w.tape w.drawn q))).run P (tp {w with drawn:=w.drawn+1} τ):=by
     simp only[cL,hf,if_false,eC];show(k (q.cut (τ w.drawn q))).run P _=_;rw[e0]; rfl
    have:=h3 τ λi a b=>af i (cF a) b;revert this
    cases(k _).run P _ with
    |ok a w2=>intro h; show(Sem.choose q k).run P _=_; rw[e2]; exact h
    |halt x w2=>cases x<;>intro h<;>first|trivial|(show(Sem.choose q k).run P _=_; rw[e2]; exact h)
 |gone hd=>
  intro w w' O;obtain⟨_,c,e,f,hx⟩:=O.dead _ hd;exact .inl ⟨.stuck "getObj: a row of cells",w,by simp only[cL,hx],trivial⟩
 |env _ U=>exact λw w' O=>(U _ w w' O).step rfl rfl rfl λτ=>rfl
 |program _ U=>exact λw w' O=>(U w w' O).step rfl rfl rfl λτ=>rfl
 |mark hm _ U=>exact λw w' O=>(U w w' O).step rfl rfl rfl λτ=>rfl
 |panic hv=>exact λw w' _=>.inr ⟨cA _,rfl,λτ _=>rfl⟩
theorem align(h:WR m w w'):∃y:World,WR m w y/\Al w y/\y.heap=w'.heap:=by
 refine⟨{w' with tape:=λi q=>w.tape (i-w'.drawn+w.drawn) q},⟨h.obj,h.fz,h.all,h.LW,h.LX,h.Jd,h.os,h.kD,h.lk,h.dead,h.rB⟩,λi q=>?_,rfl⟩;show w.tape _ q=w.tape _ q;have:w'.drawn+i-w'.drawn+w.drawn=w.drawn+i:=by omega
 rw[this]
theorem li.loc{RA:Ren->α->β->Prop}{s:Sem α}{s':Sem β}(h:li P RA m s s'):∀(w w':World),WR m w w'->Loc P s w:=by
 induction h with
 |base h=>exact h.loc
 |@bind γ δ RC m s s' f f' h _ ih=>
  intro w w' hw;obtain⟨ab,ac,ad,_⟩:=align hw;have U:=h.run w ab #[] ac (.inl ad);rcases h.loc w w' hw with⟨x,jn,W,Y⟩|⟨W,Y,h3⟩
  .exact .inl ⟨x,jn,by rw[cN,W]; rfl,Y⟩
  .cases hr:s.run P w with
   |halt x wn=>
    have eb:(s.bind f).run P w=.halt x wn:=by rw[cN,hr]; rfl
    rw[hr]at W Y h3 U
    cases x with
    |panic v=>
     refine .inr ⟨by rw[eb]; exact W,by rw[eb]; exact Y,λτ O=>?_⟩;rw[eb]at O⊢;have:=h3 τ O;show(s.bind f).run P (tp w τ)=_;rw[cN,show s.run P (tp w τ)=.halt (.panic v) (tp wn τ)from this];rfl
    |unsupported u=>cases u<;>first|exact U.elim|exact .inl ⟨_,wn,eb,trivial⟩
    |stuck y=>exact .inl ⟨_,wn,eb,trivial⟩
    |throw y=>exact .inl ⟨_,wn,eb,trivial⟩
    |_=>exact U.elim
   |ok a wn=>
    rw[hr]at W Y h3 U;obtain⟨dx,b,ae,es₁,e1,e2,e3,e4,_⟩:=U;have eb:(s.bind f).run P w=(f a).run P wn:=by rw[cN,hr]; rfl
    rcases ih dx a b e2 e3 wn ae e4 with⟨x,jn,g1,g2⟩|⟨g1,g2,g3⟩
    .exact .inl ⟨x,jn,eb.trans g1,g2⟩
    .refine .inr ⟨by rw[eb]; exact cB W g1,by rw[eb,g2]; exact Y,λτ O=>?_⟩;rw[eb]at O⊢;have ha:=h3 τ λi x y=>O i x (c9 y g1);have hb:=g3 τ λi x y=>by rw[show wn.tape=w.tape from Y]; exact O i (cB W x) y
     have aa:(s.bind f).run P (tp w τ)=(f a).run P (tp wn τ):=by rw[cN,ha]; rfl
     revert hb
     cases(f a).run P wn with
     |ok c w2=>intro h; show(s.bind f).run P _=_; rw[aa]; exact h
     |halt x w2=>cases x<;>intro h<;>first|trivial|(show(s.bind f).run P _=_; rw[aa]; exact h)
 |@Sl m q k s' hd h=>
  intro w w' hw;by_cases hf:q.forced=true
  .exact((h 0).loc w w' hw).step (by simp only[cL,hf,if_true]) rfl rfl λτ=>by simp only[cL,hf,if_true]
  .have e:(Sem.choose q k).run P w=(k (q.cut (w.tape w.drawn q))).run P {w with drawn:=w.drawn+1}:=by simp only[cL,hf,if_false,eC]
   rcases(h _).loc _ w' (hw.draw _ _)with⟨x,jn,W,Y⟩|⟨W,Y,h3⟩
   .exact .inl ⟨x,jn,e.trans W,Y⟩
   .refine .inr ⟨by rw[e]; exact cB (cG _) W,by rw[e,Y],λτ O=>?_⟩;rw[e]at O⊢;have e0:=O _ (cA _) (cE W)
    have e2:(Sem.choose q k).run P (tp w τ)=(k (q.cut (w.tape w.drawn q))).run P (tp {w with drawn:=w.drawn+1} τ):=by
     simp only[cL,hf,if_false,eC];show(k (q.cut (τ w.drawn q))).run P _=_;rw[e0]; rfl
    have:=h3 τ λi a b=>O i (cF a) b;revert this
    cases(k _).run P _ with
    |ok a w2=>intro h; show(Sem.choose q k).run P _=_; rw[e2]; exact h
    |halt x w2=>cases x<;>intro h<;>first|trivial|(show(Sem.choose q k).run P _=_; rw[e2]; exact h)
def wU(P:Program)(s:World->GStep)(w:World)(eH:Frame)(eI:List Frame)(w₁:World):Prop:=
 w.drawn<=w₁.drawn/\w₁.tape=w.tape/\∀τ,ux τ w w₁->∃es,s (tp w τ)=.go (G eH eI) (tp w₁ τ) es
theorem fZ{s:Sem α}{r:Result α}(h:s.run P w=r):∃es,s.runT P w #[]=(r,es):=by
 refine⟨(s.runT P w #[]).2,?_⟩;rw[<-h,<-cM P s w _]
theorem Lu(aa:P.follows .rangeFuncRecover=true){fr:Frame}{cs:List Frame}(W:Loc P s w)(ad:∀n O,s.run P w=.ok n O->∃m n',gM P m n n')(ac:∀x O,s.run P w=.halt x O->(∃v,x=.panic v)\/jK x){eH:Frame}{eI:List Frame}{es:Array Event}
  (h:c7 P true fr cs none s w=.go (G eH eI) w₁ es):wU P (c7 P true fr cs none s) w eH eI w₁:=by
 rcases hrt:s.runT P w #[]with⟨r,ag⟩;have Y:s.run P w=r:=by rw[<-cM P s w #[],hrt]
 unfold c7 at h;simp only[if_true]at h;rw[hrt]at h;rcases W with⟨x,jn,h1,h2⟩|⟨h1,h2,h3⟩
 .rw[Y]at h1;subst h1;exfalso
  cases x with
  |unsupported u=>cases u<;>first|exact h2.elim|cases h
  |stuck y=>cases h
  |throw y=>simp[bD,bL,cK,G]at h
  |_=>exact h2.elim
 .rw[Y]at h1 h2 h3
  have fin:∀{X:Array Event}{g:Goroutine}{O:World},Cn r=O->cK X (.go g O)=.go (G eH eI) w₁ es->(∀τ,xm P s w τ r->∃X',c7 P true fr cs none s (tp w τ)=cK X' (.go g (tp O τ)))->wU P (c7 P true fr cs none s) w eH eI w₁:=by
   intro X g O e hh hk;simp only[cK,GStep.go.injEq]at hh;obtain⟨rfl,rfl,_⟩:=hh;subst e;refine⟨h1,h2,λτ ae=>?_⟩;obtain⟨X',e⟩:=hk τ (h3 τ ae);exact⟨_,e⟩
  have plain:∀{X:Array Event}{g:Goroutine}{O:World},Cn r=O->cK X (.go g O)=.go (G eH eI) w₁ es->(∀τ U,s.runT P (tp w τ) #[]=(match r with|.ok n w=>.ok n (tp w τ)|.halt x w=>.halt x (tp w τ),U)->∃X',c7 P true fr cs none s (tp w τ)=cK X' (.go g (tp O τ)))->(∃n O,r=.ok n O)\/(∃v O,r=.halt (.panic v) O)->wU P (c7 P true fr cs none s) w eH eI w₁:=by
   intro X g O e hh hk hr;refine fin e hh λτ W=>?_;rcases hr with⟨n,O,rfl⟩|⟨v,O,rfl⟩
   .obtain⟨e',e⟩:=fZ W;exact hk τ e' e
   .obtain⟨e',e⟩:=fZ W;exact hk τ e' e
  cases r with
  |ok n O=>
   obtain⟨m,n',hn⟩:=ad n O Y
   cases hn with
   |value hv=>exact plain rfl h (λτ U e=>by unfold c7; simp only[if_true,e]; exact⟨_,rfl⟩) (.inl ⟨_,_,rfl⟩)
   |skip=>exact plain rfl h (λτ U e=>by unfold c7; simp only[if_true,e]; exact⟨_,rfl⟩) (.inl ⟨_,_,rfl⟩)
   |enter hf af ha=>exact plain rfl h (λτ U e=>by unfold c7; simp only[if_true,e]; exact⟨_,rfl⟩) (.inl ⟨_,_,rfl⟩)
   |round W ht ha af=>exact plain rfl h (λτ U e=>by unfold c7; simp only[if_true,e]; exact⟨_,rfl⟩) (.inl ⟨_,_,rfl⟩)
   |defer hd=>exact plain rfl h (λτ U e=>by unfold c7; simp only[if_true,e]; exact⟨_,rfl⟩) (.inl ⟨_,_,rfl⟩)
   |comm bl sh hq hc=>cases h
   |spawn ah hd=>
    exfalso;clear plain fin h1 h2 h3 hrt Y;dsimp only at h;generalize bG P fr.fn _=X at h;rw[apply_ite (cK X)]at h
    have key:∀(c:Prop)[Decidable c] (A B C:GStep),(if c then A else B)=C->A=C\/B=C:=by
     intro c _ A B C hh;split at hh
     .exact .inl hh
     .exact .inr hh
    rcases key _ _ _ _ h with h|h
    .simp[bD,bL,cK,G]at h
    .simp[cK]at h
   |recover=>
    clear plain;obtain⟨fn,tm,td,df,md,kd,rd⟩:=fr
    cases rd with
    |none=>
     dsimp only at h;revert h;generalize ab:b6 _ cs=p;intro h
     cases p with
     |none=>
      refine fin rfl h λτ W=>?_;obtain⟨e',e⟩:=fZ W;unfold c7;simp only[if_true,e];rw[ab];exact⟨_,rfl⟩
     |some x=>
      obtain⟨v,c⟩:=x;refine fin rfl h λτ W=>?_;obtain⟨e',e⟩:=fZ W;unfold c7;simp only[if_true,e];rw[ab];exact⟨_,rfl⟩
    |some l=>
     dsimp only at h;rw[if_pos aa]at h;revert h;generalize ab:b6 _ cs=p;intro h
     cases p with
     |none=>
      refine fin rfl h λτ W=>?_;obtain⟨e',e⟩:=fZ W;unfold c7;simp only[if_true,e,aa];rw[ab];exact⟨_,rfl⟩
     |some x=>
      refine fin rfl h λτ W=>?_;obtain⟨e',e⟩:=fZ W;unfold c7;simp only[if_true,e,aa];rw[ab];exact⟨_,rfl⟩
  |halt x O=>
   cases x with
   |panic v=>exact plain rfl h (λτ U e=>by unfold c7; simp only[if_true,e]; exact⟨_,rfl⟩) (.inr ⟨_,_,rfl⟩)
   |stuck y=>cases h
   |throw y=>simp[bD,bL,cK,G]at h
   |unsupported u=>
    rcases ac _ _ Y with⟨v,hv⟩|hv
    .cases hv
    .cases u<;>first|exact hv.elim|cases h
   |_=>
    rcases ac _ _ Y with⟨v,hv⟩|hv
    .cases hv
    .exact hv.elim
theorem li.outs{s':Sem Go.Next}(h:li P (gM P) m s s')(hw:WR m w w'):(∀n y,s.run P w=.ok n y->∃m n',gM P m n n')/\(∀x y,s.run P w=.halt x y->(∃v,x=.panic v)\/jK x):=by
 obtain⟨U,W,Y,_⟩:=align hw;have O:=h.run w U #[] W Y;constructor
 .intro n y e;rw[e]at O;obtain⟨dx,b,_,_,_,_,e3,_⟩:=O;exact⟨dx,b,e3⟩
 .intro x y e;rw[e]at O;cases x<;>first|exact .inl ⟨_,rfl⟩|exact .inr O
end
section
open Go.Conc
variable {d':Deferred} {fr fr':Frame} {cs cs':List Frame} {s':Sem Go.Next} {w' w₁:World}
def kQ(P:Program)(d:Deferred):Goroutine:={frame:={(default:Frame)with fn:=P.funcs.size,defers:=[d],mode:=.panicking [bF]},callers:=[],status:=.running,dying:=none}
inductive oD(P:Program):GStep->Prop
 |go (g c w es):oD P (.go (G g c) w es)
 |ended (o w es):oD P (.ended o w es)
 |dies (g w es):ga P g->oD P (.go g w es)
 |comm (g c k b s w es):oD P (.comm (G g c) k b s w es)
 |spawn (g c d w es):oD P (.spawn (G g c) (kQ P d) w es)
theorem oD.after{P:Program}{s:GStep}(h:oD P s)(X:Array Event):oD P (cK X s):=by
 cases h with
 |go g c w es=>exact .go ..
 |ended o w es=>exact .ended ..
 |dies g w es h=>exact .dies _ _ _ h
 |comm g c k b s w es=>exact .comm ..
 |spawn g c d w es=>exact .spawn ..
theorem sF{P:Program}(fr:Frame)(y:String)(w:World):oD P (bD fr y w):=.dies _ _ _ (dieOf_okD (P:=P) fr [] y false w)
section
variable {P:Program} {m:Ren} {T:List Frame} {gl:Nat->Prop} {st:Bool}
def Jr(P:Program)(m:Ren)(T:List Frame)(s':GStep)(w':World)(g:Goroutine)(k:Array CommCase)(b:Bool)(sh:CommShape)(w₁:World):Prop:=
 ∃fr cs dx fr' cs' k' y es,g=G fr cs/\s'=.comm (G fr' cs') k' b sh y es/\(m.ic\/Jn k b sh)/\m.Le dx/\dQ P dx T (fr::cs) (fr'::cs')/\dP (BG dx) k.toList k'.toList/\WR dx w₁ y/\fv m dx w' y/\∀e∈es,oy dx e
def Jh(P:Program)(m:Ren)(T:List Frame)(s':GStep)(w':World)(g ch:Goroutine)(w₁:World):Prop:=
 ∃fr cs d dx fr' cs' d' y es,g=G fr cs/\ch=kQ P d/\s'=.spawn (G fr' cs') (kQ P d') y es/\m.ic/\m.Le dx/\dQ P dx T (fr::cs) (fr'::cs')/\DR dx d d'/\WR dx w₁ y/\fv m dx w' y/\∀e∈es,oy dx e
theorem Hw(h:fK m fr fr'):fr'.noResult P=fr.noResult P:=by
 have y:=h.todo;unfold Frame.noResult
 have:fr'.oper?=fr.oper?:=by
  unfold ee;revert y;generalize fr.todo=l;generalize fr'.todo=O;intro y
  cases y with
  |nil=>rfl
  |cons hi _=>
   cases hi with
   |inRegion ops t U=>cases t<;>rfl
   |_=>rfl
 rw[this]
theorem yS{d:Deferred}(h:DR m d d'):((d'.target matches .nil):Bool)=(d.target matches .nil):=by
 have:=h.target;revert this;generalize d.target=a;generalize d'.target=b;intro x;cases x<;>rfl
theorem Iz{d:Deferred}(h:DR m d d'):d'.args.isEmpty=d.args.isEmpty:=by
 have:=h.args.size;simp[Array.isEmpty,this]
theorem GS(ac:P.follows .rangeFuncRecover=true){s:Sem Go.Next}{w:World}(aa:∀n W,s.run P w=.ok n W->∃m n',gM P m n n')(Y:∀x W,s.run P w=.halt x W->(∃v,x=.panic v)\/jK x):oD P (c7 P true fr cs none s w):=by
 rcases hrt:s.runT P w _ with⟨r,ad⟩;have U:s.run P w=r:=by rw[<-cM P s w _,hrt]
 unfold c7;rw[hrt];refine oD.after ?_ _
 cases r with
 |ok n W=>
  obtain⟨m,n',hn⟩:=aa n W U
  cases hn with
  |value O=>exact .go ..
  |skip=>exact .go ..
  |enter hf ab ha=>exact .go ..
  |round hl ht ha ab=>exact .go ..
  |defer hd=>exact .go ..
  |comm bl sh hq hc=>exact .comm ..
  |spawn ae hd=>
   have key:∀(c:Prop)[Decidable c] (A B:GStep),oD P A->oD P B->oD P (if c then A else B):=by
    intro c _ A B h1 h2;split
    .exact h1
    .exact h2
   exact key _ _ _ (sF ..) (.spawn ..)
  |recover=>
   obtain⟨fn,tm,td,df,md,kd,rd⟩:=fr
   cases rd with
   |none=>
    dsimp only;split<;>exact .go ..
   |some l=>
    dsimp only;split<;>exact .go ..
 |halt x W=>
  cases x with
  |panic v=>exact .go ..
  |stuck y=>exact .ended ..
  |throw y=>exact sF ..
  |unsupported u=>
   rcases Y _ _ U with⟨v,O⟩|O
   .cases O
   .cases u<;>first|exact O.elim|exact .ended ..
  |_=>
   rcases Y _ _ U with⟨v,O⟩|O
   .cases O
   .exact O.elim
theorem G7(hE:tH P m)(hS:dQ P m T (fr::cs) (fr'::cs')){s:Sem Go.Next}(hs:li P (gM P) m s s'){w:World}(hw:WR m w w')(Y:Al w w'){g:Goroutine}{k:Array CommCase}{b:Bool}{sh:CommShape}{es:Array Event}
  (h:c7 P true fr cs none s w=.comm g k b sh w₁ es):Jr P m T (c7 P true fr' cs' none s' w') w' g k b sh w₁:=by
 have hr:=hs.run w w' #[] hw Y;have W:=(hs.outs hw).2;unfold c7 at h⊢;simp only[if_true]at h⊢;rcases hrt:s.runT P w #[]with⟨r,ab⟩;have O:s.run P w=r:=by rw[<-cM P s w #[],hrt]
 rw[O]at hr;rw[hrt]at h
 cases r with
 |ok n wn=>
  obtain⟨dx,n',aa,es₁,e1,e2,e3,e4,_,e6,e7⟩:=hr;rw[e1];simp only[bo]at h⊢
  cases e3 with
  |comm bl sh hq hc=>
   simp only[cK,GStep.comm.injEq]at h;obtain⟨rfl,rfl,rfl,rfl,rfl,_⟩:=h;exact⟨fr,cs,dx,fr',cs',_,aa,_,rfl,rfl,hq.imp (λx=>e2.ic▸x) id,e2,hS.mono e2,hc,e4,e6,tJ e7⟩
  |spawn ac hd=>
   have key:∀(X:Array Event)(c:Prop)[Decidable c] (A B C:GStep),cK X (if c then A else B)=C->(c/\cK X A=C)\/(¬c/\cK X B=C):=by
    intro X c _ A B C hh;split at hh
    .exact .inl ⟨‹_›,hh⟩
    .exact .inr ⟨‹_›,hh⟩
   rcases key _ _ _ _ _ h with⟨_,h⟩|⟨hc,h⟩
   .simp[bD,bL,cK]at h
   .simp[cK]at h
  |recover=>
   obtain⟨fn,tm,td,df,md,kd,rd⟩:=fr
   cases rd with
   |none=>
    revert h;generalize b6 _ cs=p;intro h;cases p<;>cases h
   |some l=>
    dsimp only at h;rw[if_pos hE.RF]at h;revert h;generalize b6 _ cs=p;intro h;cases p<;>cases h
  |_=>cases h
 |halt x wn=>
  cases x with
  |panic v=>cases h
  |stuck y=>cases h
  |throw y=>cases h
  |unsupported u=>
   rcases W _ _ O with⟨v,U⟩|U
   .cases U
   .cases u<;>first|exact U.elim|cases h
  |_=>
   rcases W _ _ O with⟨v,U⟩|U
   .cases U
   .exact U.elim
theorem FL(hE:tH P m)(hS:dQ P m T (fr::cs) (fr'::cs')){s:Sem Go.Next}(hs:li P (gM P) m s s'){w:World}(hw:WR m w w')(aa:Al w w'){g ch:Goroutine}{es:Array Event}
  (h:c7 P true fr cs none s w=.spawn g ch w₁ es):Jh P m T (c7 P true fr' cs' none s' w') w' g ch w₁:=by
 have hr:=hs.run w w' #[] hw aa;have W:=(hs.outs hw).2;unfold c7 at h⊢;simp only[if_true]at h⊢;rcases hrt:s.runT P w #[]with⟨r,af⟩;have O:s.run P w=r:=by rw[<-cM P s w #[],hrt]
 rw[O]at hr;rw[hrt]at h
 cases r with
 |ok n wn=>
  obtain⟨dx,n',ab,es₁,e1,Y,e3,e4,_,e6,e7⟩:=hr;rw[e1];simp only[bo]at h⊢
  cases e3 with
  |comm bl sh hq hc=>cases h
  |spawn ac hd=>
   rename_i d d';dsimp only at h⊢
   have key:∀(X:Array Event)(c:Prop)[Decidable c] (A B C:GStep),cK X (if c then A else B)=C->(c/\cK X A=C)\/(¬c/\cK X B=C):=by
    intro X c _ A B C hh;split at hh
    .exact .inl ⟨‹_›,hh⟩
    .exact .inr ⟨‹_›,hh⟩
   rcases key _ _ _ _ _ h with⟨_,h⟩|⟨hc,h⟩
   .simp[bD,bL,cK]at h
   .have ad:¬((P.follows .goNilFatal&&(d'.target matches .nil)&&d'.args.isEmpty&&fr'.noResult P)=true):=by
     rw[yS hd,Iz hd,Hw hS.pR];exact hc
    have hf:=(hS.pR.mono Y).finish (.undef dx);have ae:=hS.set Y hf.1 hf.2.1 hf.2.2 (eZ ..) (gN ..);obtain⟨rfl,rfl,rfl,_⟩:=h;exact⟨_,_,d,dx,_,_,d',ab,_,rfl,rfl,(congrArg _ (if_neg ad)).trans rfl,Y.ic▸ac,Y,ae,hd,e4,e6,tJ e7⟩
  |recover=>
   obtain⟨fn,tm,td,df,md,kd,rd⟩:=fr
   cases rd with
   |none=>
    revert h;generalize b6 _ cs=p;intro h;cases p<;>cases h
   |some l=>
    dsimp only at h;rw[if_pos hE.RF]at h;revert h;generalize b6 _ cs=p;intro h;cases p<;>cases h
  |_=>cases h
 |halt x wn=>
  cases x with
  |panic v=>cases h
  |stuck y=>cases h
  |throw y=>cases h
  |unsupported u=>
   rcases W _ _ O with⟨v,U⟩|U
   .cases U
   .cases u<;>first|exact U.elim|cases h
  |_=>
   rcases W _ _ O with⟨v,U⟩|U
   .cases U
   .exact U.elim
end
end
section
open Go.Conc
variable {fr fr':Frame} {cs cs':List Frame}
inductive jb:GStep->Prop
 |go (g w es):jb (.go g w es)
 |ended (o w es):jb (.ended o w es)
theorem jb.after{s:GStep}(h:jb s)(X:Array Event):jb (cK X s):=by
 cases h with
 |go g w es=>exact .go ..
 |ended o w es=>exact .ended ..
section
variable {P:Program} {m:Ren} {T:List Frame} {gl:Nat->Prop} {st:Bool}
def OO(P:Program)(m:Ren)(T:List Frame)(r r':GStep)(w':World):Prop:=
 (∃dx X X' fr cs fr' cs' s s' w₁ y,r=cK X (c7 P true fr cs none s w₁)/\r'=cK X' (c7 P true fr' cs' none s' y)/\m.Le dx/\tH P dx/\dQ P dx T (fr::cs) (fr'::cs')/\li P (gM P) dx s s'/\WR dx w₁ y/\Al w₁ y/\fv m dx w' y/\∀e∈X',oy dx e)\/jb r
theorem Rk{u:Frame}{d:List Frame}{x:World}{g:Frame}{c:List Frame}{O:World}{e:Array Event}(h:GStep.go {frame:=u,callers:=d,status:=.running,dying:=none} x=.go (G g c) O e):O=x/\∀y,∃U,GStep.go {frame:=u,callers:=d,status:=.running,dying:=none} y=.go (G g c) y U:=by
 simp only[GStep.go.injEq]at h;obtain⟨W,rfl,_⟩:=h;exact⟨rfl,λy=>⟨#[],by rw[W]⟩⟩
theorem C1(fr:Frame)(c:Frame)(cs:List Frame)(v:Value):∀x g d O e,bz P true fr (c::cs) none v x=.go (G g d) O e->O=x/\∀y,∃U,bz P true fr (c::cs) none v y=.go (G g d) y U:=by
 intro x g d O e h;unfold bz at h⊢;cases W:fr.kind<;>rw[W]at h<;>dsimp only at h⊢ <;> simp only[GStep.go.injEq]at h<;>obtain⟨Y,rfl,_⟩:=h<;>exact⟨rfl,λy=>⟨#[],by rw[Y]⟩⟩
theorem CY(O:dQ P m T (fr::cs) (fr'::cs')):∃c y,cs=c::y:=by cases O<;>exact⟨_,_,rfl⟩
theorem PR(g:Frame)(c:List Frame)(w:World):oD P (.go {frame:=g,callers:=c,status:=.running,dying:=none} w):=.go g c w _
theorem zP(fr c:Frame)(cs:List Frame)(v:Value)(w:World):oD P (bz P true fr (c::cs) none v w):=by
 unfold bz;cases fr.kind<;>exact PR ..
theorem OO.direct(O:tH P m)(U:dQ P m T (fr::cs) (fr'::cs')){s s':Sem Go.Next}(W:li P (gM P) m s s'){w w':World}(Y:WR m w w')(y:Al w w'):OO P m T (c7 P true fr cs none s w) (c7 P true fr' cs' none s' w') w':=
 .inl ⟨m,#[],#[],fr,cs,fr',cs',s,s',w,w',(mQ _).symm,(mQ _).symm,.refl m,O,U,W,Y,y,.refl m w',by simp⟩
theorem qO(fr c:Frame)(cs:List Frame)(v:Value)(w:World):jb (bz P true fr (c::cs) none v w):=by
 unfold bz;cases fr.kind<;>exact .go ..
theorem sy{dx m₂:Ren}(y:dx.Le m₂){X Y:Array Event}(O:∀e∈X,oy dx e)(U:∀e∈Y,oy m₂ e):∀e∈X++Y,oy m₂ e:=λe W=>(bu.1 W).elim (λx=>(O e x).mono y) (U e)
end
end
section
open Go.Conc
variable {k:Array CommCase} {es:Array Event} {b:Bool} {sh:CommShape} {fr:Frame} {g:Goroutine} {cs:List Frame} {s:Sem Go.Next} {w w₁:World}
def Dy(P:Program)(s:World->GStep)(w:World)(g:Goroutine)(k:Array CommCase)(b:Bool)(sh:CommShape)(w₁:World):Prop:=
 w.drawn<=w₁.drawn/\w₁.tape=w.tape/\∀τ,ux τ w w₁->∃es,s (tp w τ)=.comm g k b sh (tp w₁ τ) es
section
variable {P:Program} {m:Ren} {T:List Frame} {gl:Nat->Prop} {st:Bool}
theorem TG{r:GStep}(y:jb r)(h:r=.comm g k b sh w es){X:Prop}:X:=by
 rw[h]at y;cases y
theorem GK{X:Array Event}{s:GStep}(h:cK X s=.comm g k b sh w es):∃y,s=.comm g k b sh w y:=by
 cases s<;>simp[cK]at h;obtain⟨rfl,rfl,rfl,rfl,rfl,_⟩:=h;exact⟨_,rfl⟩
theorem yw(Y:P.follows .rangeFuncRecover=true)(ab:∀n W,s.run P w=.ok n W->∃m n',gM P m n n')(aa:∀x W,s.run P w=.halt x W->(∃v,x=.panic v)\/jK x)
  (h:c7 P true fr cs none s w=.comm g k b sh w₁ es):g=G fr cs/\s.run P w=.ok (.comm k b sh) w₁:=by
 rcases hrt:s.runT P w _ with⟨r,ac⟩;have O:s.run P w=r:=by rw[<-cM P s w _,hrt]
 unfold c7 at h;rw[hrt]at h;rw[O]
 cases r with
 |ok n W=>
  obtain⟨m,n',hn⟩:=ab n W O
  cases hn with
  |comm bl sh hq hc=>
   obtain⟨rfl,rfl,rfl,rfl,rfl,_⟩:=h;exact⟨rfl,rfl⟩
  |spawn ad hd=>
   have key:∀(X:Array Event)(c:Prop)[Decidable c] (A B C:GStep),cK X (if c then A else B)=C->(c/\cK X A=C)\/(¬c/\cK X B=C):=by
    intro X c _ A B C hh;split at hh
    .exact .inl ⟨‹_›,hh⟩
    .exact .inr ⟨‹_›,hh⟩
   rcases key _ _ _ _ _ h with⟨_,h⟩|⟨hc,h⟩
   .simp[bD,bL,cK]at h
   .simp[cK]at h
  |recover=>
   obtain⟨fn,tm,td,df,md,kd,rd⟩:=fr
   cases rd with
   |none=>
    revert h;generalize b6 _ cs=p;intro h;cases p<;>cases h
   |some l=>
    dsimp only at h;rw[if_pos Y]at h;revert h;generalize b6 _ cs=p;intro h;cases p<;>cases h
  |_=>cases h
 |halt x W=>
  cases x with
  |panic v=>cases h
  |stuck y=>cases h
  |throw y=>cases h
  |unsupported u=>
   rcases aa _ _ O with⟨v,U⟩|U
   .cases U
   .cases u<;>first|exact U.elim|cases h
  |_=>
   rcases aa _ _ O with⟨v,U⟩|U
   .cases U
   .exact U.elim
theorem H5(y:P.follows .rangeFuncRecover=true)(hl:Loc P s w)(U:∀n W,s.run P w=.ok n W->∃m n',gM P m n n')(Y:∀x W,s.run P w=.halt x W->(∃v,x=.panic v)\/jK x)
  (h:c7 P true fr cs none s w=.comm g k b sh w₁ es):Dy P (c7 P true fr cs none s) w g k b sh w₁:=by
 obtain⟨rfl,hr⟩:=yw y U Y h;rcases hl with⟨x,jn,O,h2⟩|⟨O,h2,h3⟩
 .rw[hr]at O;cases O
 .rw[hr]at O h2 h3;refine⟨O,h2,λτ aa=>?_⟩;have h4:=h3 τ aa;obtain⟨e',e⟩:=fZ h4;unfold c7;simp only[if_true,e];exact⟨_,rfl⟩
end
end
section
open Go.Conc
variable {k:Array CommCase} {b:Bool} {sh:CommShape} {eH:Frame} {eI:List Frame} {w':World}
structure ND(P:Program)(r:GStep):Prop where
 go:∀{g c w es},r≠.go (G g c) w es
 outs:oD P r
 plain:jb r
theorem ND.after{P:Program}{r:GStep}(h:ND P r)(X:Array Event):ND P (cK X r):=⟨λe=>(tL e).elim λ_ e=>h.go e,h.outs.after X,h.plain.after X⟩
theorem ND.ended{P:Program}(o:Outcome)(w:World)(es:Array Event):ND P (.ended o w es):=⟨λe=>(by cases e),.ended ..,.ended ..⟩
theorem ND.throw{P:Program}(fr:Frame)(y:String)(w:World):ND P (bD fr y w):=⟨nofun,sF ..,.go ..⟩
inductive wB(P:Program)(T:List Frame)(main':Bool)(ok:Prop):Ren->(World->GStep)->(World->GStep)->Prop
 |stay {m f f' g g' cs cs'}:dQ P m T (g::cs) (g'::cs')->(∀x,f x=.go (G g cs) x)->(∀x,f' x=.go (G g' cs') x)->wB P T main' ok m f f'
 |low {m f f' g cs}:(ok->False)->(∀x,f x=.go (G g cs) x)->wB P T main' ok m f f'
 |bad {m f f'}:(∀x x',WR m x x'->ND P (f x))->wB P T main' ok m f f'
 |app {m f f' fr fr' cs cs' s s'}:tH P m->dQ P m T (fr::cs) (fr'::cs')->li P (gM P) m s s'->(∀x,f x=c7 P true fr cs none s x)->(∀x,f' x=c7 P true fr' cs' none s' x)->wB P T main' ok m f f'
 |ret {m f f' fr fr' cs cs' v v'}:dQ P m T (fr::cs) (fr'::cs')->(ok->cs=[door P]->fr.roundOf=none->False)->VR m v v'->(∀x,f x=bz P true fr cs none v x)->(∀x,f' x=bz P main' fr' cs' none v' x)->wB P T main' ok m f f'
 |run {m f f'} {α β:Type} {RA:Ren->α->β->Prop} {t t'} {E:Result α->Array Event->Array Event} {E':Result β->Array Event->Array Event} {K:Result α->GStep} {K':Result β->GStep}:dv P RA m t t'->
   (∀x r es,t.runT P x #[]=(r,es)->f x=cK (E r es) (K r))->(∀x r es,t'.runT P x #[]=(r,es)->f' x=cK (E' r es) (K' r))->(∀dx r es,(∀e∈es,oy dx e)->∀e∈E' r es,oy dx e)->
   (∀dx a a',m.Le dx->RA dx a a'->wB P T main' ok dx (λw=>K (.ok a w)) (λw=>K' (.ok a' w)))->
   (∀dx v v',m.Le dx->VR dx v v'->wB P T main' ok dx (λw=>K (.halt (.panic v) w)) (λw=>K' (.halt (.panic v') w)))->
   (∀x w,jK x->ND P (K (.halt x w)))->wB P T main' ok m f f'
section
variable {P:Program} {m:Ren} {T:List Frame} {gl:Nat->Prop} {st main':Bool} {ok:Prop} {f f':World->GStep}
theorem wB.out(F:wB P T main' ok m f f')(Y:ok):∀{w w':World},WR m w w'->Al w w'->∀{eH:Frame}{eI:List Frame}{w₁:World}{es:Array Event},f w=.go (G eH eI) w₁ es->ni P m T (f' w') w' eH eI w₁:=by
 induction F with
 |stay hg h W=>intro w w' U y eH eI w₁ es e; rw[h]at e; rw[W]; exact still U hg e
 |low hn h=>exact(hn Y).elim
 |bad h=>intro w w' U y eH eI w₁ es e; exact absurd e (h w w' U).go
 |app hE hS hs h W=>intro w w' U y eH eI w₁ es e; rw[h]at e; rw[W]; exact KH hE hS hs U y e
 |ret hS hn hv h W=>
  intro w w' U y eH eI w₁ es e;have:=Qz (main':=main') (X:=#[]) (X':=#[]) (.refl _) hS (hn Y) hv U (.refl _ w') (by simp) (by rw[mQ,<-h]; exact e);rw[mQ]at this;rw[W];exact this
 |@run m f f' α β RA t t' E E' K K' ht h W hE _ _ aa ab ac=>
  intro w w' U y eH eI w₁ es e;have O:=ht.run w w' #[] U (.inl y);rw[<-cM P _ w _]at O;rcases hrt:t.runT P w _ with⟨r,ae⟩;rw[hrt]at O;rw[h _ _ _ hrt]at e;obtain⟨af,e⟩:=tL e
  cases r with
  |ok a wn=>
   obtain⟨dx,a',ad,es₁,g1,g2,g3,g4,g5,g6,g7⟩:=O;rw[W _ _ _ g1];exact ni.after g2 g6 (hE _ _ _ (by simpa using g7)) (ab dx a a' g2 g3 g4 (g5 y) e)
  |halt x wn=>
   cases x with
   |panic v=>
    obtain⟨dx,a',ad,es₁,g1,g2,g3,g4,g5,g6,g7⟩:=O;rw[W _ _ _ g1];exact ni.after g2 g6 (hE _ _ _ (by simpa using g7)) (ac dx v a' g2 g3 g4 (g5 y) e)
   |_=>refine absurd e (aa _ _ ?_).go; exact O
def IY(R:World->Array Event->GStep)(s:World->GStep)(w w₁:World):Prop:=
 w.drawn<=w₁.drawn/\w₁.tape=w.tape/\∀τ,ux τ w w₁->∃es,s (tp w τ)=R (tp w₁ τ) es
structure Kind(P:Program)(R:World->Array Event->GStep):Prop where
 off:∀{X s w es},cK X s=R w es->∃e,s=R w e
 on:∀X w es,∃e,cK X (R w es)=R w e
 bad:∀{r w es},ND P r->r≠R w es
 go:∀{g c x w es},GStep.go (G g c) x=R w es->w=x/\∀y,∃e,GStep.go (G g c) y=R y e
 ret:∀{fr c cs v x w es},bz P true fr (c::cs) none v x=R w es->w=x/\∀y,∃e,bz P true fr (c::cs) none v y=R y e
 app:∀{fr cs s w w₁ es},Loc P s w->(∀n wn,s.run P w=.ok n wn->∃m n',gM P m n n')->(∀x wn,s.run P w=.halt x wn->(∃v,x=.panic v)\/jK x)->c7 P true fr cs none s w=R w₁ es->IY R (c7 P true fr cs none s) w w₁
theorem wB.loc(F:wB P T main' ok m f f'){R:World->Array Event->GStep}(k:Kind P R):∀{w w':World},WR m w w'->∀{w₁:World}{es:Array Event},f w=R w₁ es->IY R f w w₁:=by
 induction F with
 |stay _ h _|low _ h=>intro w w' U w₁ es e; rw[h]at e; obtain⟨rfl,q⟩:=k.go e; exact⟨cA _,rfl,λτ _=>by rw[h]; exact q _⟩
 |bad h=>intro w w' U w₁ es e; exact absurd e (k.bad (h w w' U))
 |app hE hS hs h h'=>
  intro w w' U w₁ es e;rw[h]at e;obtain⟨a,b,c⟩:=k.app (hs.loc w w' U) (hs.outs U).1 (hs.outs U).2 e;exact⟨a,b,λτ W=>by rw[h]; exact c τ W⟩
 |ret hS hn hv h h'=>
  obtain⟨c,ak,rfl⟩:=CY hS;intro w w' U w₁ es e;rw[h]at e;obtain⟨rfl,q⟩:=k.ret e;exact⟨cA _,rfl,λτ _=>by rw[h]; exact q _⟩
 |@run m f f' α β RA t t' E E' K K' ht h h' hE _ _ aa ab ac=>
  intro w w' U w₁ es e;obtain⟨ad,ae,af,_⟩:=align U;have O:=ht.run w ad #[] ae (.inl af);have hl:=ht.loc w w' U;obtain⟨al,ag⟩:=fZ (P:=P) (s:=t) (w:=w) rfl;rw[h _ _ _ ag]at e;obtain⟨_,e⟩:=k.off e
  have key:∀{r:Result α}{Y:World},Cn r=Y->IY R (λw=>K (match r with|.ok a _=>.ok a w|.halt x _=>.halt x w)) Y w₁->(∀τ,xm P t w τ r->t.run P (tp w τ)=match r with|.ok a _=>.ok a (tp Y τ)|.halt x _=>.halt x (tp Y τ))->t.run P w=r->Q8 P t w->IY R f w w₁:=by
   rintro r Y rfl ⟨k1,k2,k3⟩ ah hr ⟨h1,h2,h3⟩;rw[hr]at h1 h2 h3;refine⟨cB h1 k1,k2.trans h2,λτ W=>?_⟩;have ha:=ah τ (h3 τ λi x y=>W i x (c9 y k1));obtain⟨am,k4⟩:=k3 τ λi x y=>by rw[h2]; exact W i (cB h1 x) y
   obtain⟨an,ai⟩:=fZ ha;have k4:K _=R .. := k4;rw[h _ _ _ ai,k4];exact k.on ..
  rcases hl with⟨q,jn,h1,h2⟩|hl
  .rw[h1]at e;exact absurd e (k.bad (aa _ _ h2))
  .cases hq:t.run P w with
   |ok a Y=>
    rw[hq]at e O;obtain⟨dx,a',aj,es₁,g1,g2,g3,g4,_⟩:=O;exact key (r:=.ok a Y) rfl (ab dx a a' g2 g3 g4 e) (λ_ h=>h) hq hl
   |halt x Y=>
    rw[hq]at e O
    cases x with
    |panic v=>
     obtain⟨dx,a',aj,es₁,g1,g2,g3,g4,_⟩:=O;exact key (r:=.halt _ Y) rfl (ac dx v a' g2 g3 g4 e) (λ_ h=>h) hq hl
    |_=>refine absurd e (k.bad (aa _ _ ?_)); exact O
theorem wB.outs(F:wB P T main' ok m f f'):∀{w w':World},WR m w w'->oD P (f w):=by
 induction F with
 |stay _ h _|low _ h=>intro w w' O; rw[h]; exact .go ..
 |bad h=>exact λO=>(h _ _ O).outs
 |app hE hS hs h h'=>intro w w' O; rw[h]; exact GS hE.RF (hs.outs O).1 (hs.outs O).2
 |ret hS hn hv h h'=>obtain⟨c,af,rfl⟩:=CY hS; intro w w' O; rw[h]; exact zP ..
 |@run m f f' α β RA t t' E E' K K' ht h h' hE _ _ U W Y=>
  intro w w' O;obtain⟨aa,ab,ac,_⟩:=align O;have y:=ht.run w aa #[] ab (.inl ac);obtain⟨ag,ad⟩:=fZ (P:=P) (s:=t) (w:=w) rfl;rw[h _ _ _ ad];refine oD.after ?_ _
  cases hq:t.run P w with
  |ok a wn=>rw[hq]at y; obtain⟨dx,a',ae,es₁,g1,g2,g3,g4,_⟩:=y; exact W dx a a' g2 g3 g4
  |halt x wn=>
   rw[hq]at y
   cases x with
   |panic v=>obtain⟨dx,a',ae,es₁,g1,g2,g3,g4,_⟩:=y; exact Y dx v a' g2 g3 g4
   |_=>refine(U _ _ ?_).outs; exact y
theorem OO.after{dx:Ren}{r r':GStep}{O:World}{X X':Array Event}(W:m.Le dx)(hk:fv m dx w' O)(hX:∀e∈X',oy dx e)(h:OO P dx T r r' O):OO P m T (cK X r) (cK X' r') w':=by
 have aa:∀(X Y:Array Event)(s:GStep),cK X (cK Y s)=cK (X++Y) s:=λX Y s=>by cases s<;>simp[cK]
 rcases h with⟨m₂,Y,Y',fr,cs,fr',cs',s,s',w₁,y,rfl,rfl,U,h2,h3,h4,h5,h6,h7,h8⟩|h
 .exact .inl ⟨m₂,_,_,fr,cs,fr',cs',s,s',w₁,y,aa ..,aa ..,W.trans U,h2,h3,h4,h5,h6,hk.trans W U h7,sy U hX h8⟩
 .exact .inr (h.after _)
theorem wB.via(F:wB P T main' ok m f f'):∀{w w':World},WR m w w'->Al w w'->OO P m T (f w) (f' w') w':=by
 induction F with
 |stay _ h _|low _ h=>intro w w' U O; rw[h]; exact .inr (.go ..)
 |bad h=>exact λU _=>.inr (h _ _ U).plain
 |app hE hS hs h W=>intro w w' U O; rw[h,W]; exact OO.direct hE hS hs U O
 |ret hS hn hv h W=>obtain⟨c,ae,rfl⟩:=CY hS; intro w w' U O; rw[h]; exact .inr (qO ..)
 |@run m f f' α β RA t t' E E' K K' ht h W hE _ _ Y aa ab=>
  intro w w' U O;have y:=ht.run w w' #[] U (.inl O);obtain⟨af,ac⟩:=fZ (P:=P) (s:=t) (w:=w) rfl;rw[h _ _ _ ac]
  cases hq:t.run P w with
  |ok a wn=>
   rw[hq]at y;obtain⟨dx,a',ad,es₁,g1,g2,g3,g4,g5,g6,g7⟩:=y;rw[W _ _ _ g1];exact OO.after g2 g6 (hE _ _ _ (by simpa using g7)) (aa dx a a' g2 g3 g4 (g5 O))
  |halt x wn=>
   rw[hq]at y
   cases x with
   |panic v=>
    obtain⟨dx,a',ad,es₁,g1,g2,g3,g4,g5,g6,g7⟩:=y;rw[W _ _ _ g1];exact OO.after g2 g6 (hE _ _ _ (by simpa using g7)) (ab dx v a' g2 g3 g4 (g5 O))
   |_=>refine .inr (jb.after (Y _ _ ?_).plain _); exact y
theorem pO{fr fr':Frame}{cs cs':List Frame}(y:fr.roundOf≠none)(W:dQ P m T (fr::cs) (fr'::cs')){l O:Nat}(Y:m.blk l=some O)(j:Option Code)(hj:∀c,j=some c->fD m.ok c){q U:Outcome}
  (h:∀x,f x=cK (bG P fr.fn ((gj l j).runT P x #[]).2) (match ((gj l j).runT P x #[]).1 with|.ok v w=>bz P true fr cs none v w|.halt _ w=>.ended q w))
  (h':∀x,f' x=cK (bG P fr'.fn ((gj O j).runT P x #[]).2) (match ((gj O j).runT P x #[]).1 with|.ok v w=>bz P main' fr' cs' none v w|.halt _ w=>.ended U w)):wB P T main' ok m f f':=
 .run (E:=λ_ es=>bG P _ es) (E':=λ_ es=>bG P _ es) (K:=λr=>match r with|.ok v w=>bz P true fr cs none v w|.halt _ w=>.ended q w) (K':=λr=>match r with|.ok v w=>bz P main' fr' cs' none v w|.halt _ w=>.ended U w) (GQ (P:=P) Y hj)
  (λx r es e=>by rw[h,e]) (λx r es e=>by rw[h',e]) (λ_ _ _ h=>mO h) (λdx a a' hm ha=>.ret (W.mono hm) (λ_ _ h=>y h) ha (λ_=>rfl) (λ_=>rfl)) (λ_ _ _ _ _=>.bad λ_ _ _=>.ended ..) (λ_ _ _=>.ended ..)
theorem mM{fr:Frame}{cs:List Frame}{ops:Array Oper}{i:Nat}{t:List Nat}{k:List Item}{o:Oper}(y:fr.todo=.inRegion ops (i::t)::k)(O:ops[i]?=some o)(U:g8 o (bJ ops fr.tmps)=true)(x:World) :
  c8 P b true fr cs none x=match fr.roundOf,o.op with
   |some l,.defer c=>c7 P true fr cs none (do Instr.deferInRound l (<-bP fr.eval c o.type); pure .skip) x
   |_,_=>c7 P true fr cs none (execOp fr.eval o) x:=by
 unfold c8;simp only[y,O,gt,gv];rw[if_pos U];unfold bw.oper;simp only[ee,y,O];rfl
theorem LG(hX:l5 P m gl st){fr fr':Frame}{cs cs':List Frame}(hS:dQ P m T (fr::cs) (fr'::cs')):wB P T main' ok m (c8 P true true fr cs none) (c8 P main' true fr' cs' none):=by
 have hF:=hS.pR;have ht:=hF.todo;have ae:=hF.round;have ao:=hF.fn;obtain⟨fn,tm,td,df,md,kd,rd⟩:=fr;obtain⟨O,U,ap,aa,ac,ab,W⟩:=fr';simp only at ht ae ao;subst ao;have Y:∀{k k':List Item},dP (jw m) k k'->dQ P m T (⟨O,tm,k,df,md,kd,rd⟩::cs) (⟨O,U,k',aa,ac,ab,W⟩::cs'):=λhk=>hS.set (.refl m) (He hF hk) rfl rfl rfl rfl;have aj:dQ P m T (⟨O,tm,td,df,.returning,kd,rd⟩::cs) (⟨O,U,ap,aa,.returning,ab,W⟩::cs'):=hS.set (.refl m) (Rf hF .returning) rfl rfl rfl rfl;have al:∀x,dN m.fq gl x->VR m (dg ⟨O,tm,td,df,md,kd,rd⟩ x) (dg ⟨O,U,ap,aa,ac,ab,W⟩ x):=λx hx=>hF.eval hX.nZ x hx
 cases ht with
 |nil=>
  cases ae with
  |none=>exact .stay aj (λ_=>rfl) (λ_=>rfl)
  |some hl=>exact pO (by simp) hS hl none (λ_ h=>by cases h) (λ_=>rfl) (λ_=>rfl)
 |cons hi hk=>
  rename_i k k'
  cases hi with
  |Ex y=>exact .bad λ_ _ _=>.ended _ _ _
  |lY y=>exact .stay (Y (.cons (.Ex y) (.cons (.lY y) hk))) (λ_=>rfl) (λ_=>rfl)
  |inBlock i=>exact .stay (Y hk) (λ_=>rfl) (λ_=>rfl)
  |inScope c hc=>exact .stay (Y hk) (λ_=>rfl) (λ_=>rfl)
  |inLoop c hc=>exact .stay (Y (.cons (.code c hc) (.cons (.inLoop c hc) hk))) (λ_=>rfl) (λ_=>rfl)
  |inRangeFunc hl=>exact .bad λ_ _ _=>.ended _ _ _
  |beginRound=>
   refine .app hX.env hS (s:=do rd.elim (stuck "beginRound: no round") gn; pure .skip) (s':=do W.elim (stuck "beginRound: no round") gn; pure .skip) ?_ (λ_=>rfl) (λ_=>rfl)
   cases ae with
   |none=>exact .base (.dy trivial)
   |some hl=>exact T6 (C5 hl)
  |endRangeFunc hl=>
   rename_i l l'
   refine .run (Lz (P:=P) hl) (E:=λ_ es=>bG P O es) (E':=λ_ es=>bG P O es)
    (K:=λr=>match r with|.ok ag w=>.go {frame:=⟨O,tm,(ag.map Item.code).toList++k,df,md,kd,rd⟩,callers:=cs,status:=.running,dying:=none} w|.halt (.panic v) w=>.go {frame:=dk ⟨O,tm,.endRangeFunc l::k,df,md,kd,rd⟩ [{v,recovered:=false}],callers:=cs,status:=.running,dying:=none} w|.halt _ w=>.ended (.stuck "range over a function: no such loop" (di P ⟨O,tm,.endRangeFunc l::k,df,md,kd,rd⟩)) w)
    (K':=λr=>match r with|.ok ag w=>.go {frame:=⟨O,U,(ag.map Item.code).toList++k',aa,ac,ab,W⟩,callers:=cs',status:=.running,dying:=none} w|.halt (.panic v) w=>.go {frame:=dk ⟨O,U,.endRangeFunc l'::k',aa,ac,ab,W⟩ [{v,recovered:=false}],callers:=cs',status:=.running,dying:=none} w|.halt _ w=>.ended (.stuck "range over a function: no such loop" (di P ⟨O,U,.endRangeFunc l'::k',aa,ac,ab,W⟩)) w)
    (λx r es e=>by unfold c8; dsimp only; rw[e]; rfl) (λx r es e=>by unfold c8; dsimp only; rw[e]; rfl) (λ_ _ _ h=>mO h) ?_ ?_ ?_
   .rintro dx a b hm ⟨rfl,ha⟩;refine .stay (hS.set hm (g:=⟨O,tm,_,df,md,kd,rd⟩) (g':=⟨O,U,_,aa,ac,ab,W⟩) (He (hF.mono hm) (dP.append ?_ (hk.mono λ_ _ x=>x.mono hm))) rfl rfl rfl rfl) (λ_=>rfl) (λ_=>rfl)
    cases a with
    |none=>exact .nil
    |some c=>exact .cons (.code c (ha c rfl)) .nil
   .intro dx v v' hm hv;have hf:=(hF.mono hm).raise (vs:=[{v,recovered:=false}]) (vs':=[{v:=v',recovered:=false}]) (.cons ⟨hv,rfl,rfl⟩ .nil);exact .stay (hS.set hm hf.1 hf.2.1 hf.2.2 (nT _ _) (th _ _)) (λ_=>rfl) (λ_=>rfl)
   .intro x w hx;cases x<;>first|exact hx.elim|exact .ended _ _ _
  |inRegion ops t ho=>
   cases t with
   |nil=>exact .stay (Y hk) (λ_=>rfl) (λ_=>rfl)
   |cons i t=>
    have hy:bJ ops U=bJ ops tm:=funext (lK ops hF.tmps);have hf:=hF.finish (.undef m);have ak:=hS.set (.refl m) hf.1 hf.2.1 hf.2.2 (eZ _ _) (gN _ _)
    cases ad:ops[i]? with
    |none=>exact .stay ak (λx=>by unfold c8; dsimp only; rw[ad]; rfl) (λx=>by unfold c8; dsimp only; rw[ad]; rfl)
    |some o=>
     by_cases ah:g8 o (bJ ops tm)=true
     .have ai:g8 o (bJ ops U)=true:=by rw[hy]; exact ah
      have am:=hX.ops o (ho o (by rw[<-Array.getElem?_toList]at ad; exact cV ad));have aq:=Fx hX.env hX.strict hX.ic al (λc=>⟨rfl,rfl⟩) o am
      cases ae with
      |none=>exact .app hX.env hS aq (λx=>by rw[mM rfl ad ah]) (λx=>by rw[mM rfl ad ai])
      |some hl=>
       obtain⟨od,oo,ot,op,oa,og⟩:=o;cases oo<;>first|exact .app hX.env hS aq (λx=>mM rfl ad ah x) (λx=>mM rfl ad ai x)|skip
       rename_i c;refine .app hX.env hS (.base ?_) (λx=>mM rfl ad ah x) (λx=>mM rfl ad ai x);refine dA (KS al ⟨am.1,?_⟩ _) λm' d d' av hd=>dA (y7 (av.blk _ _ hl) hd) λ_ _ _ _ _=>.pure .skip;have h2:=am.2;obtain⟨cc,ca,ct⟩:=c;cases cc<;>first|trivial|exact⟨h2.1,hX.ic h2.2⟩|exact h2.elim
     .refine .stay ak (λx=>?_) (λx=>?_)
      all_goals
       unfold c8;dsimp only;rw[ad];simp only[gt,gv]
       try rw[hy]
       rw[if_neg ah];rfl
  |code c hc=>
   cases c with
   |skip=>exact .stay (Y hk) (λ_=>rfl) (λ_=>rfl)
   |label l=>exact .stay (Y hk) (λ_=>rfl) (λ_=>rfl)
   |ret=>
    cases ae with
    |none=>exact .stay aj (λ_=>rfl) (λ_=>rfl)
    |some hl=>exact pO (by simp) hS hl (some .ret) (λ_ h=>by cases h; trivial) (λ_=>rfl) (λ_=>rfl)
   |seq x y=>exact .stay (Y (.cons (.code x hc.1) (.cons (.code y hc.2) hk))) (λ_=>rfl) (λ_=>rfl)
   |cond c x y=>
    have hv:=al c (by have:=hc.1; cases c<;>first|exact this|exact this.elim);generalize hp:dg _ c=p at hv;generalize af:dg _ c=p' at hv;cases hv<;>first|exact .bad (λx _ _=>by unfold c8; dsimp only; rw[hp]; exact .ended _ _ _)|skip
    rename_i t;refine .stay (Y (.cons (.code (if t then x else y) ?_) hk)) (λx=>by unfold c8; dsimp only; rw[hp]; rfl) (λx=>by unfold c8; dsimp only; rw[af]; rfl);cases t
    .exact hc.2.2
    .exact hc.2.1
   |block i x=>exact .stay (Y (.cons (.code x hc) (.cons (.inBlock i) hk))) (λ_=>rfl) (λ_=>rfl)
   |loop x=>exact .stay (Y (.cons (.code x hc) (.cons (.inLoop x hc) hk))) (λ_=>rfl) (λ_=>rfl)
   |scope x=>exact .stay (Y (.cons (.code x hc) (.cons (.inScope x hc) hk))) (λ_=>rfl) (λ_=>rfl)
   |exit i=>
    have he:=xK i hk;generalize hp:exitTo i k=p at he;generalize af:exitTo i k'=p' at he
    cases he with
    |some an=>exact .stay (Y an) (λx=>by unfold c8; dsimp only; rw[hp]; rfl) (λx=>by unfold c8; dsimp only; rw[af]; rfl)
    |none=>
     cases ae with
     |none=>exact .bad (λx _ _=>by unfold c8; dsimp only; rw[hp]; exact .ended _ _ _)
     |some hl=>exact pO (by simp) hS hl (some (.exit i)) (λ_ h=>by cases h; trivial) (λx=>by unfold c8; dsimp only; rw[hp]; rfl) (λx=>by unfold c8; dsimp only; rw[af]; rfl)
   |goto l=>
    have he:=xz l hk;generalize hp:gotoIn l k=p at he;generalize af:gotoIn l k'=p' at he
    cases he with
    |some an=>exact .stay (Y an) (λx=>by unfold c8; dsimp only; rw[hp]; rfl) (λx=>by unfold c8; dsimp only; rw[af]; rfl)
    |none=>
     cases ae with
     |none=>exact .bad (λx _ _=>by unfold c8; dsimp only; rw[hp]; exact .ended _ _ _)
     |some hl=>exact pO (by simp) hS hl (some (.goto l)) (λ_ h=>by cases h; trivial) (λx=>by unfold c8; dsimp only; rw[hp]; rfl) (λx=>by unfold c8; dsimp only; rw[af]; rfl)
   |rangeFunc f ps a x=>
    refine .run (EC (P:=P) (fn:=O) (ps:=ps) hF.tmps hc.2.1 hc.2.2 ae) (E:=λ_ es=>bG P O es) (E':=λ_ es=>bG P O es)
     (K:=λr=>match r with|.ok (l,mark) w=>c7 P true ⟨O,tm,.inRangeFunc l::k,mark++df,md,kd,rd⟩ cs none (do let d <-bP (dg ⟨O,tm,.inRangeFunc l::k,mark++df,md,kd,rd⟩) {callee:=.value f,args:=#[.const (.func (.yield l) #[] #[])],argTypes:=#[]} 0; invoke d.target d.args) w|.halt _ w=>.ended (.stuck "range over a function: no such loop" (di P ⟨O,tm,.code (.rangeFunc f ps a x)::k,df,md,kd,rd⟩)) w)
     (K':=λr=>match r with|.ok (l,mark) w=>c7 P true ⟨O,U,.inRangeFunc l::k',mark++aa,ac,ab,W⟩ cs' none (do let d <-bP (dg ⟨O,U,.inRangeFunc l::k',mark++aa,ac,ab,W⟩) {callee:=.value f,args:=#[.const (.func (.yield l) #[] #[])],argTypes:=#[]} 0; invoke d.target d.args) w|.halt _ w=>.ended (.stuck "range over a function: no such loop" (di P ⟨O,U,.code (.rangeFunc f ps a x)::k',aa,ac,ab,W⟩)) w)
     (λx r es e=>by unfold c8; dsimp only; rw[e]; rfl) (λx r es e=>by unfold c8; dsimp only; rw[e]; rfl) (λ_ _ _ h=>mO h) ?_ (λ_ _ _ _ _=>.bad λ_ _ _=>.ended _ _ _) (λ_ _ _=>.ended _ _ _)
    rintro dx ⟨l,mk⟩ ⟨l',mk'⟩ hm ⟨ar,aw⟩
    have au:fK dx ⟨O,tm,.inRangeFunc l::k,mk++df,md,kd,rd⟩ ⟨O,U,.inRangeFunc l'::k',mk'++aa,ac,ab,W⟩:=
     ⟨rfl,hF.tmps.mono hm,.cons (.inRangeFunc ar) (hk.mono λ_ _ y=>y.mono hm),aw.append ((hF.mono hm).defers),(hF.mono hm).mode,(hF.mono hm).round⟩
    refine .app (hX.mono hm).env (hS.set hm au rfl rfl rfl rfl) (.base (dA (oP (au.eval (hX.mono hm).nZ f (by have:=hc.1; cases f<;>first|exact this|exact this.elim)) (by simpa[dg]using ed.one (VR.Jt (Ma.yield ar) (.nil dx) (.nil dx)))) λm' d d' hl hd=>?_)) (λ_=>rfl) (λ_=>rfl);exact q9 ((hX.mono hm).env.mono hl) hd.1.target hd.2 hd.1.args
   |region i ops d=>
    cases d with
    |false=>exact .stay (Y (.cons (.inRegion ops _ hc) hk)) (λ_=>rfl) (λ_=>rfl)
    |true=>
     refine .run (RA:=w9) (t:=choose (.order O i)) (t':=choose (.order O i)) (E:=λ_ _=>#[]) (E':=λ_ _=>#[])
      (K:=λr=>match r with|.ok t w=>.go {frame:=⟨O,tm,.inRegion ops (g9 (P.follows .mixedOrders) ops t)::k,df,md,kd,rd⟩,callers:=cs,status:=.running,dying:=none} w|.halt _ w=>.ended (.stuck "order" (di P ⟨O,tm,.code (.region i ops true)::k,df,md,kd,rd⟩)) w)
      (K':=λr=>match r with|.ok t w=>.go {frame:=⟨O,U,.inRegion ops (g9 (P.follows .mixedOrders) ops t)::k',aa,ac,ab,W⟩,callers:=cs',status:=.running,dying:=none} w|.halt _ w=>.ended (.stuck "order" (di P ⟨O,U,.code (.region i ops true)::k',aa,ac,ab,W⟩)) w)
      (.choose λn=>.pure rfl) (λx r es e=>?_) (λx r es e=>?_) (λ_ _ _ _ e h=>by simp at h) ?_ (λ_ _ _ _ _=>.bad λ_ _ _=>.ended _ _ _) (λ_ _ _=>.ended _ _ _)
     .have q:(choose (.order O i)).run P x=r:=by rw[<-cM P _ x #[],e]
      rw[mQ,<-q];rfl
     .have q:(choose (.order O i)).run P x=r:=by rw[<-cM P _ x #[],e]
      rw[mQ,<-q];rfl
     .rintro dx a b hm rfl;exact .stay (hS.set hm (g:=⟨O,tm,_,df,md,kd,rd⟩) (g':=⟨O,U,_,aa,ac,ab,W⟩) (He (hF.mono hm) (.cons (.inRegion ops _ (hm.ok▸hc)) (hk.mono λ_ _ y=>y.mono hm))) rfl rfl rfl rfl) (λ_=>rfl) (λ_=>rfl)
   |refuse y=>exact hc.elim
theorem wB.eq{g g':World->GStep}(F:wB P T main' ok m f f')(h:∀x,g x=f x)(y:∀x,g' x=f' x):wB P T main' ok m g g':=by rw[funext h,funext y]; exact F
theorem nI(hX:l5 P m gl st){fr fr':Frame}{cs cs':List Frame}(hS:dQ P m T (fr::cs) (fr'::cs')){d d':Deferred}(hd:DR m d d')(hn:∀x y z,d.target≠.builtin .close x y z):wB P T main' ok m (bB P fr cs none d) (bB P fr' cs' none d'):=by
 have aa:dv P (gM P) m (invoke d.target d.args) (invoke d'.target d'.args):=q9 hX.env hd.target (by
  intro bb x y z e;have O:=hd.target;rw[e]at O;revert O;generalize d'.target=t';intro O;cases O
  exact hn x y z e) hd.args
 have U:=hS.pR.mode;have ab:=yS hd
 have ac:((fr'.mode matches .panicking _):Bool)=(fr.mode matches .panicking _):=by
  revert U;generalize fr.mode=q;generalize fr'.mode=q';intro h;cases h<;>rfl
 by_cases hc:((d.target matches .nil)&&(fr.mode matches .panicking _))=true
 .exact .bad λx _ _=>by rw[show bB P fr cs none d x=_ from if_pos hc]; exact .ended _ _ _
 .refine .run aa (E:=λr es=>bG P fr.fn (match r with|.halt .blocked _|.halt .waiting _=>#[]|_=>es)) (E':=λr es=>bG P fr'.fn (match r with|.halt .blocked _|.halt .waiting _=>#[]|_=>es)) (λx r es e=>by rw[show bB P fr cs none d x=_ from if_neg hc,e]; rfl)
   (λx r es e=>by rw[show bB P fr' cs' none d' x=_ from if_neg λh=>hc ((congr (congrArg and ab) ac).symm.trans h),e]; rfl) (λdx r es h=>mO (by split<;>simp_all)) ?_ ?_ ?_
  .intro dx a a' hm ha;have Y:=hS.mono hm
   cases ha with
   |enter hf W ha=>exact .stay (Y.push (Df ((hX.env.mono hm).calls _ hf) W ha .deferred .deferred) rfl (.inr rfl)) (λ_=>rfl) (λ_=>rfl)
   |round hl O ha W=>
    rename_i l l' f t t' a c;have ad:fK dx (dr l f t a c .deferred) (dr l' f t' a c .deferred):=⟨rfl,O,.cons (.code _ ha) (.cons .beginRound (.cons (.code _ W) .nil)),.nil,.run,.some hl⟩;exact .stay (Y.push ad rfl (.inr rfl)) (λ_=>rfl) (λ_=>rfl)
   |recover=>
    have O:=tD Y;generalize hq:fr.mode=q at U;generalize ae:fr'.mode=q' at U
    cases U with
    |run|panicking=>exact .stay Y (λ_=>rfl) (λ_=>rfl)
    |returning=>
     generalize hp:b6 _ cs=p at O;generalize af:b6 _ cs'=p' at O
     cases O with
     |none=>exact .stay Y (λ_=>rfl) (λ_=>rfl)
     |some hx=>exact .stay hx.2 (λ_=>rfl) (λ_=>rfl)
   |_=>exact .stay Y (λ_=>rfl) (λ_=>rfl)
  .intro dx v v' hm hv;have hf:=(hS.pR.mono hm).raise (vs:=[{v,recovered:=false}]) (vs':=[{v:=v',recovered:=false}]) (.cons ⟨hv,rfl,rfl⟩ .nil);exact .stay (hS.set hm hf.1 hf.2.1 hf.2.2 (nT ..) (th ..)) (λ_=>rfl) (λ_=>rfl)
  .intro x w hx
   cases x with
   |throw y=>exact .throw ..
   |stuck y=>exact .ended ..
   |unsupported u=>exact .ended ..
   |_=>exact hx.elim
theorem EP(hX:l5 P m gl st){fr fr':Frame}{cs cs':List Frame}(hS:dQ P m T (fr::cs) (fr'::cs'))(hm:fr.mode≠.run)(hn:¬AtClose fr)(U:ok->cs=[door P]->fr.mode≠.run->fr.defers=[]->fr.roundOf=none->False):wB P T main' ok m (b4 P true fr cs none) (b4 P main' fr' cs' none):=by
 have hF:=hS.pR;have ab:=hF.defers;have W:=hF.mode;have ac:=hF.fn;unfold AtClose at hn;obtain⟨fn,tm,td,df,md,kd,rd⟩:=fr;obtain⟨O,ad,ae,ap,af,ag,ah⟩:=fr';simp only at ab W hm hn U ac;subst ac
 cases ab with
 |cons hd ai=>
  rename_i d d' ds aj;have ak:dQ P m T (⟨O,tm,td,ds,md,kd,rd⟩::cs) (⟨O,ad,ae,aj,af,ag,ah⟩::cs'):=hS.set (.refl m) ⟨hF.fn,hF.tmps,hF.todo,ai,W,hF.round⟩ rfl rfl rfl rfl;have ht:=hd.target;obtain⟨dt,da⟩:=d;obtain⟨aq,al⟩:=d';simp only at ht
  cases ht with
  |collected am=>
   rename_i r r';refine .run (yD (P:=P) am) (E:=λ_ es=>bG P O es) (E':=λ_ es=>bG P O es) (λx r es e=>by unfold b4; dsimp only; rw[e]; dsimp only) (λx r es e=>by unfold b4; dsimp only; rw[e]; dsimp only) (λ_ _ _ h=>mO h) (λdx a a' hl ha=>?_) (λ_ _ _ _ _=>.bad λ_ _ _=>?_) (λ_ _ _=>?_)<;>try exact .ended _ _ _
   exact .stay (hS.set hl (g:=⟨O,tm,td,a++ds,md,kd,rd⟩) (g':=⟨O,ad,ae,a'++aj,af,ag,ah⟩) ⟨hF.fn,hF.tmps.mono hl,(hF.mono hl).todo,ha.append (ai.mono λ_ _ x=>x.mono hl),W.mono hl,(hF.mono hl).round⟩ rfl rfl rfl rfl) (λ_=>rfl) (λ_=>rfl)
  |nil=>exact(nI hX ak (d:=⟨.nil,da⟩) (d':=⟨.nil,al⟩) ⟨.nil,hd.args⟩ (λ_ _ _ h=>by cases h)).eq (λ_=>rfl) (λ_=>rfl)
  |fn hf=>exact(nI hX ak (d:=⟨_,da⟩) (d':=⟨_,al⟩) ⟨.fn hf,hd.args⟩ (λ_ _ _ h=>by cases h)).eq (λ_=>rfl) (λ_=>rfl)
  |builtin x y z ar=>exact absurd ⟨hm,x,y,z,_,_,rfl⟩ hn
  |mark x y z an=>
   refine .bad λx _ hw=>?_;obtain⟨q,jn,e1⟩:=JP (P:=P) an hw;rw[<-cM P _ x #[]]at e1;unfold b4;dsimp only;rw[e1];exact ND.after (.ended _ _ _) _
 |nil=>
  cases W with
  |run=>exact absurd rfl hm
  |returning=>
   cases Y:P.funcs[O]? with
   |none=>exact .ret hS (λo e h=>U o e (by simp) rfl h) (hF.tmps.getD 0) (λx=>by unfold b4; dsimp only; rw[Y]) (λx=>by unfold b4; dsimp only; rw[Y])
   |some f=>
    refine .run (lD (P:=P) (fn:=f) hF.tmps) (E:=λ_ es=>bG P O es) (E':=λ_ es=>bG P O es) (λx r es e=>by unfold b4; dsimp only; rw[Y]; dsimp only; rw[e]; dsimp only) (λx r es e=>by unfold b4; dsimp only; rw[Y]; dsimp only; rw[e]; dsimp only) (λ_ _ _ h=>mO h)
     (λdx a a' hl ha=>?_) (λ_ _ _ _ _=>.bad λ_ _ _=>?_) (λx _ _=>?_)
    .exact .ret (hS.mono hl) (λo e h=>U o e (by simp) rfl h) ha (λ_=>rfl) (λ_=>rfl)
    .exact .ended _ _ _
    .cases x<;>exact .ended _ _ _
  |panicking ao=>
   have jv:∀{q q':Frame},fK m q q'->de P q=false/\de P q'=false:=by
    intro q q' hq;have:=hq.todo;unfold de;revert this;generalize q.todo=l;generalize q'.todo=l';intro ht
    cases ht with
    |nil=>constructor <;>(split<;>first|rfl|simp_all)
    |cons hi _=>cases hi <;>(constructor <;>(split<;>first|rfl|simp_all))
   have aa:=jv hF
   cases hS with
   |one hf h1 h2 h3=>exact .low (λo=>U o rfl (by simp) rfl h3) (λx=>by unfold b4; dsimp only; rw[aa.1]; rfl)
   |cons hf h1 h2 h3=>
    have hr:=h3.pR.raise ao;exact .stay (h3.set (.refl m) hr.1 hr.2.1 hr.2.2 (nT ..) (th ..)) (λx=>by unfold b4; rw[aa.1]; rfl) (λx=>by unfold b4; rw[aa.2]; rfl)
theorem E9(hX:l5 P m gl st){fr fr':Frame}{cs cs':List Frame}(W:dQ P m T (fr::cs) (fr'::cs'))(hn:¬AtClose fr)(O:ok->cs=[door P]->fr.mode≠.run->fr.defers=[]->fr.roundOf=none->False):wB P T main' ok m (bw P true (G fr cs)) (bw P main' (G fr' cs')):=by
 have y:=W.pR.mode;generalize Y:fr.mode=q at y;generalize U:fr'.mode=q' at y
 cases y with
 |run=>exact(LG hX W).eq (λx=>by unfold bw; simp only[G,Y]) (λx=>by unfold bw; simp only[G,U])
 |returning|panicking=>exact(EP hX W (by rw[Y]; simp) hn O).eq (λx=>by unfold bw; simp only[G,Y]) (λx=>by unfold bw; simp only[G,U])
theorem xQ(U:l5 P m gl st){fr fr':Frame}{cs cs':List Frame}(W:dQ P m T (fr::cs) (fr'::cs'))(Y:¬AtClose fr)(y:cs=[door P]->fr.mode≠.run->fr.defers=[]->fr.roundOf=none->False){w:World}(hw:WR m w w')(O:Al w w'){main':Bool}{w₁:World}{es:Array Event}
  (h:bw P true (G fr cs) w=.go (G eH eI) w₁ es):ni P m T (bw P main' (G fr' cs') w') w' eH eI w₁:=(E9 (ok:=True) U W Y λ_=>y).out trivial hw O h
theorem xe(y:l5 P m gl st){fr fr':Frame}{cs cs':List Frame}(O:dQ P m T (fr::cs) (fr'::cs'))(U:¬AtClose fr):wB P T main' False m (bw P true (G fr cs)) (bw P main' (G fr' cs')):=E9 y O U False.elim
theorem Qo(y:l5 P m gl st){fr fr':Frame}{cs cs':List Frame}(O:dQ P m T (fr::cs) (fr'::cs'))(U:¬AtClose fr){w:World}(W:WR m w w'){w₁:World}{es:Array Event}
  (h:bw P true (G fr cs) w=.go (G eH eI) w₁ es):wU P (bw P true (G fr cs)) w eH eI w₁:=
 (xe (main':=true) y O U).loc (R:=λx es=>.go _ x es) ⟨tL,λ_ _ _=>⟨_,rfl⟩,λh=>h.go,Rk,λh=>C1 _ _ _ _ _ _ _ _ _ h,λa b c h=>Lu y.env.RF a b c h⟩ W h
theorem Mx(y:l5 P m gl st){fr fr':Frame}{cs cs':List Frame}(O:dQ P m T (fr::cs) (fr'::cs'))(U:¬AtClose fr){w:World}(W:WR m w w'):oD P (bw P true (G fr cs) w):=(xe (main':=true) y O U).outs W
theorem J6(O:l5 P m gl st){fr fr':Frame}{cs cs':List Frame}(U:dQ P m T (fr::cs) (fr'::cs'))(W:¬AtClose fr){w:World}(Y:WR m w w')(y:Al w w'){main':Bool}:OO P m T (bw P true (G fr cs) w) (bw P main' (G fr' cs') w') w':=(xe O U W).via Y y
theorem sO(hX:l5 P m gl st){fr fr':Frame}{cs cs':List Frame}(hS:dQ P m T (fr::cs) (fr'::cs'))(hn:¬AtClose fr){w:World}(hw:WR m w w')(W:Al w w'){main':Bool}{g:Goroutine}{w₁:World}{es:Array Event}
  (h:bw P true (G fr cs) w=.comm g k b sh w₁ es):Jr P m T (bw P main' (G fr' cs') w') w' g k b sh w₁:=by
 have hv:=J6 hX hS hn hw W (main':=main');rw[h]at hv;rcases hv with⟨dx,X,X',f,c,f',c',s,s',w2,ae,Y,e2,hl,hE,aa,hs,ab,y,hk,hx⟩|hp
 .rw[e2];generalize hr:c7 P true f c none s w2=r at Y;cases r<;>simp only[cK,GStep.comm.injEq,reduceCtorEq]at Y;obtain⟨rfl,rfl,rfl,rfl,rfl,_⟩:=Y;obtain⟨ac,ad,m₂,O,U,k',w3,af,rfl,g1,g0,g2,g3,g4,g5,g6,g7⟩:=G7 hE aa hs ab y hr;rw[g1];exact⟨ac,ad,m₂,O,U,k',w3,_,rfl,rfl,g0.imp (λx=>hl.ic▸x) id,hl.trans g2,g3,g4,g5,hk.trans hl g2 g6,sy g2 hx g7⟩
 .cases hp
theorem Kx(hX:l5 P m gl st){fr fr':Frame}{cs cs':List Frame}(hS:dQ P m T (fr::cs) (fr'::cs'))(hn:¬AtClose fr){w:World}(hw:WR m w w')(W:Al w w'){main':Bool}{g ch:Goroutine}{w₁:World}{es:Array Event}
  (h:bw P true (G fr cs) w=.spawn g ch w₁ es):Jh P m T (bw P main' (G fr' cs') w') w' g ch w₁:=by
 have hv:=J6 hX hS hn hw W (main':=main');rw[h]at hv;rcases hv with⟨dx,X,X',f,c,f',c',s,s',w2,ae,Y,e2,hl,hE,aa,hs,ab,y,hk,hx⟩|hp
 .rw[e2];generalize hr:c7 P true f c none s w2=r at Y;cases r<;>simp only[cK,GStep.spawn.injEq,reduceCtorEq]at Y;obtain⟨rfl,rfl,rfl,_⟩:=Y;obtain⟨ac,ad,d,m₂,O,U,d',w3,af,rfl,rfl,g1,g0,g2,g3,g4,g5,g6,g7⟩:=FL hE aa hs ab y hr;rw[g1];exact⟨ac,ad,d,m₂,O,U,d',w3,_,rfl,rfl,rfl,hl.ic▸g0,hl.trans g2,g3,g4,g5,hk.trans hl g2 g6,sy g2 hx g7⟩
 .cases hp
theorem NR(y:l5 P m gl st){fr fr':Frame}{cs cs':List Frame}(O:dQ P m T (fr::cs) (fr'::cs'))(U:¬AtClose fr){w:World}(W:WR m w w'){g:Goroutine}{w₁:World}{es:Array Event}
  (h:bw P true (G fr cs) w=.comm g k b sh w₁ es):Dy P (bw P true (G fr cs)) w g k b sh w₁:=
 (xe (main':=true) y O U).loc (R:=λx es=>.comm g k b sh x es) ⟨GK,λ_ _ _=>⟨_,rfl⟩,λh e=>TG h.plain e,nofun,λh=>TG (qO ..) h,λa b c h=>H5 y.env.RF a b c h⟩ W h
end
end
section
open Go.Conc
variable {fr':Frame} {g:Goroutine} {cs':List Frame}
structure LS where
 fr:Frame
 cs:List Frame
 w:World
def LS.m(S:LS):Machine:=b8 S.fr S.cs S.w
inductive Fl(P:Program):LS->LS->Prop
 |go {fr cs w eH eI w₁ es}:bw P true (G fr cs) w=.go (G eH eI) w₁ es->Fl P ⟨fr,cs,w⟩ ⟨eH,eI,w₁⟩
 |send {fr cs w f0 c0 r v z w₁ es cap buf gD rcvd tm}:bw P true (G fr cs) w=.comm (G f0 c0) #[⟨.chan (some r),some v,z⟩] true .send w₁ es->w₁.heap[r]?=some (.chan cap buf false gD rcvd tm)->buf.size<cap->
   Fl P ⟨fr,cs,w⟩ ⟨f0.finish (bR #[⟨.chan (some r),some v,z⟩] .send 0 gA false),c0,{w₁ with heap:=w₁.heap.setIfInBounds r (.chan cap (buf.push v) false (gD+1) rcvd tm)}⟩
section
variable {P:Program} {m:Ren} {T:List Frame} {gl:Nat->Prop} {st:Bool}
theorem kw(hm:¬m.ic){fr:Frame}{cs:List Frame}(y:dQ P m T (fr::cs) (fr'::cs')):¬AtClose fr:=by
 rintro⟨_,a,t,c,args,ds,e⟩;have h:=y.pR.defers;rw[e]at h;revert h;generalize fr'.defers=l;intro h
 cases h with
 |@cons _ d' _ _ O _=>
  obtain⟨U,W⟩:=d';have Y:=O.target
  cases Y with
  |builtin _ _ _ h=>exact hm h
abbrev Gd:Array Goroutine:=#[{(default:Goroutine)with status:=.finished}]
abbrev rN:Rest:={timers:=#[],alone:=none,slice:=none}
theorem qF{fr:Frame}{cs:List Frame}{w:World}{k:Array CommCase}{b:Bool}{sh:CommShape}{w₁:World}{es:Array Event}(h:bw P true (G fr cs) w=.comm g k b sh w₁ es):step P (b8 fr cs w)=(bx P rN Gd 0 g k b sh w₁).1:=by
 unfold G at h;rw[step,bQ,move_lone];simp[bM,b8,bv,h]
theorem CA{fr:Frame}{cs:List Frame}{w:World}{w₁:World}{es:Array Event}(O:g.status=.running\/g.status=.blocked)(h:bw P true (G fr cs) w=.go g w₁ es):step P (b8 fr cs w)=.next (bH g w₁):=by
 unfold G at h;rw[step,bQ,move_lone];rcases O with y|y<;>simp[bM,b8,bH,bv,h,y]
theorem yF:∀(n:Nat){g:Goroutine}{w:World},g.dyingOn P->∀fr cs w',b9 P n (bH g w)≠.next (b8 fr cs w')
 |0,g,w,h,fr,cs,w',e=>by
  simp only[b9,fb,bH,b8,Machine.mk.injEq]at e
  obtain⟨_,e,_⟩:=e
  obtain⟨_,d,O,_⟩:=h;have:=congrArg (λx=>x[0]?) e;simp only[cU,cS,db]at this;rw[this]at O;cases O
 |n+1,g,w,h,fr,cs,w',e=>by
  rcases step_dyingOn (w:=w) h with⟨g',w1,y,U⟩|⟨o,w1,y,W⟩
  .simp only[b9,y]at e;exact yF n U _ _ _ e
  .simp only[b9,y]at e;cases e
theorem zM(n:Nat){w:World}(h:g.status=.blocked)(fr:Frame)(cs:List Frame)(w':World):b9 P n (bH g w)≠.next (b8 fr cs w'):=by
 intro e
 cases n with
 |zero=>
  simp only[b9,fb,bH,b8,Machine.mk.injEq]at e;obtain⟨_,e,_⟩:=e;have:=congrArg (λx=>x[0]?) e;simp only[cU,cS,db]at this;rw[this]at h;cases h
 |succ n=>
  obtain⟨f,c,s,y,off⟩:=g;subst h;obtain⟨O,w1,U,W⟩:=endWith_ended w 2 ..
  have:step P (bH {frame:=f,callers:=c,status:=.blocked,dying:=y,offers:=off} w)=.ended O w1:=by
   simp[step,bQ,move,ask,askOn,bH,runnable_eq,due,ahead,gc,List.range_succ,pure];rw[U]
  simp only[b9,this]at e;cases e
theorem tn{r:Nat}{v z:Value}{f0:Frame}{c0:List Frame}{w₁:World}{cap:Nat}{buf:Array Value}{gD y:Nat}{tm:Bool}(U:w₁.heap[r]?=some (.chan cap buf false gD y tm)) :
  (buf.size<cap/\(bx P rN Gd 0 (G f0 c0) #[⟨.chan (some r),some v,z⟩] true .send w₁).1=.next (b8 (f0.finish (bR #[⟨.chan (some r),some v,z⟩] .send 0 gA false)) c0 {w₁ with heap:=w₁.heap.setIfInBounds r (.chan cap (buf.push v) false (gD+1) y tm)}))\/
  (¬buf.size<cap/\((∃g w2,g.status=.blocked/\(bx P rN Gd 0 (G f0 c0) #[⟨.chan (some r),some v,z⟩] true .send w₁).1=.next (bH g w2))\/∃o w2,(bx P rN Gd 0 (G f0 c0) #[⟨.chan (some r),some v,z⟩] true .send w₁).1=.ended o w2)):=by
 by_cases hb:buf.size<cap
 .simp[bx,U,ways,bC,hb,choose,cL,ge,bind,cO,pure,fB,b8,G]
 .refine .inr ⟨hb,?_⟩
  cases O:waitingAt rN #[⟨.chan (some r),some v,z⟩] w₁ with
  |none=>exact .inr ⟨_,_,by simp[bx,U,ways,bC,hb,O]; exact⟨rfl,rfl⟩⟩
  |some w2=>exact .inl ⟨{G f0 c0 with status:=.blocked,offers:=some (#[⟨.chan (some r),some v,z⟩],.send)},w2,rfl,by simp[bx,U,ways,bC,hb,O,bH]⟩
theorem DH{ch v z:Value}{f0:Frame}{c0:List Frame}{w₁:World}(U:∀r,ch=.chan (some r)->False) :
  ((∃g w2,g.status=.blocked/\(bx P rN Gd 0 (G f0 c0) #[⟨ch,some v,z⟩] true .send w₁).1=.next (bH g w2))\/∃o w2,(bx P rN Gd 0 (G f0 c0) #[⟨ch,some v,z⟩] true .send w₁).1=.ended o w2):=by
 by_cases O:ch=.chan none
 .subst O
  cases y:waitingAt rN #[⟨.chan none,some v,z⟩] w₁ with
  |none=>exact .inr ⟨_,_,by simp[bx,ways,y]; exact⟨rfl,rfl⟩⟩
  |some w2=>exact .inl ⟨{G f0 c0 with status:=.blocked,offers:=some (#[⟨.chan none,some v,z⟩],.send)},w2,rfl,by simp[bx,ways,y,bH]⟩
 .cases ch with
  |chan x=>
   cases x with
   |none=>exact absurd rfl O
   |some r=>exact(U r rfl).elim
  |_=>simp[bx]
def Open(m:Ren):Prop:=∀r r',m.ch r=some r'->∃cap buf gD y tm,m.kD r=some (.chan cap buf false gD y tm)
theorem A1(hX:l5 P m gl st)(hm:¬m.ic)(ho:Open m){fr:Frame}{cs:List Frame}(hS:dQ P m T (fr::cs) (fr'::cs')){w w':World}(hw:WR m w w'){n:Nat}{f1:Frame}{c1:List Frame}{w1:World}
  (h:b9 P (n+1) (b8 fr cs w)=.next (b8 f1 c1 w1)):∃S,Fl P ⟨fr,cs,w⟩ S/\b9 P n S.m=.next (b8 f1 c1 w1):=by
 have hn:=kw hm hS;have O:=Mx hX hS hn hw;generalize hs:bw P true _ w=s at O
 cases O with
 |go g c w₁ es=>
  refine⟨⟨g,c,w₁⟩,.go hs,?_⟩;have:=bE (by unfold G at hs; rw[hs]; rfl);simp only[b9,this]at h;exact h
 |ended o w₁ es=>
  have:=bA (by unfold G at hs; rw[hs]; rfl);simp only[b9,this]at h;cases h
 |dies g w₁ es hd=>
  have:=CA hd.1 hs;simp only[b9,this]at h;exact absurd h (yF n hd _ _ _)
 |spawn g c d w₁ es=>
  obtain⟨aa,U,W,_⟩:=align hw;obtain⟨_,_,_,_,_,_,_,_,_,_,_,_,ab,_⟩:=Kx (main':=true) hX hS hn U W hs;exact absurd ab hm
 |comm g c k b sh w₁ es=>
  obtain⟨aa,U,W,_⟩:=align hw;obtain⟨f0,c0,dx,ag,ah,k',ac,ai,e0,e1,e2,e3,e4,e5,e6,e7,e8⟩:=sO (main':=true) hX hS hn U W hs;obtain⟨rfl,rfl,ch,v,z,rfl⟩:=e2.resolve_left hm;have ad:=qF hs;simp only[b9,ad]at h
  have dead:((∃gg w2,fs gg=.blocked/\(bx P rN Gd 0 (G g c) #[⟨ch,some v,z⟩] true .send w₁).1=.next (bH gg w2))\/∃o w2,(bx P rN Gd 0 (G g c) #[⟨ch,some v,z⟩] true .send w₁).1=.ended o w2)->False:=by
   rintro(⟨gg,w2,hg,e⟩|⟨o,w2,e⟩)
   .rw[e]at h;exact zM n hg _ _ _ h
   .rw[e]at h;cases h
  by_cases hc:∃r,ch=.chan (some r)
  .obtain⟨r,rfl⟩:=hc
   have y:∃r',dx.ch r=some r':=by
    revert e5;generalize k'.toList=l;intro e5
    cases e5 with
    |@cons _ q _ _ hx _=>
     obtain⟨aj,ak,al⟩:=q;have hv:=hx.chan
     cases hv with
     |chan hb=>exact⟨_,hb⟩
   obtain⟨r',y⟩:=y;rw[e7.ml hm]at y;obtain⟨cap,buf,gD,af,tm,ae⟩:=ho r r' y;have Y:=(e6.kD r _ (by rw[e7.kD]; exact ae)).1;rcases tn (P:=P) (v:=v) (z:=z) (f0:=g) (c0:=c) Y with⟨hb,e⟩|⟨hb,e⟩
   .rw[e]at h;exact⟨_,.send hs Y hb,h⟩
   .exact(dead e).elim
  .exact(dead (DH λr e=>hc ⟨r,e⟩)).elim
end
end
section
open Go.Conc
variable {fr':Frame} {S S':LS} {cs':List Frame} {w w':World}
def LS.on(S:LS)(τ:Nat->Question->Nat):LS:=⟨S.fr,S.cs,tp S.w τ⟩
def Am(τ:Nat->Question->Nat)(w:World):Prop:=∀i,i<w.drawn->τ i=w.tape i
def Fin(P:Program)(S:LS):Prop:=S.cs=[door P]/\S.fr.mode≠.run/\S.fr.defers=[]/\S.fr.roundOf=none
structure uW(P:Program)(gl:Nat->Prop)(st:Bool)(m:Ren)(T:List Frame)(S:LS)(fr':Frame)(cs':List Frame)(w':World):Prop where
 pg:l5 P m gl st
 ic:¬m.ic
 op:Open m
 stack:dQ P m T (S.fr::S.cs) (fr'::cs')
 world:WR m S.w w'
theorem E5{f f':Frame}{c y:List Frame}(h:b8 f c w=b8 f' y w'):f=f'/\c=y/\w=w':=by
 simp only[b8,Machine.mk.injEq]at h;obtain⟨O,U,_⟩:=h;have:=congrArg (λx=>x[0]?) U;simp only[cU,cS,db,Goroutine.mk.injEq]at this;exact⟨this.1,this.2.1,O⟩
theorem LS.Js(h:S.m=S'.m):S=S':=by
 obtain⟨f,c,w⟩:=S;obtain⟨rfl,rfl,rfl⟩:=E5 h;rfl
section
variable {P:Program} {m:Ren} {T:List Frame} {gl:Nat->Prop} {st:Bool}
theorem Fl.next(h:Fl P S S'):step P S.m=.next S'.m:=by
 cases h with
 |go h=>exact bE (by unfold G at h; rw[h]; rfl)
 |send h y hb=>
  have:=qF h;rcases tn (P:=P) (v:=_) (z:=_) (f0:=_) (c0:=_) y with⟨_,e⟩|⟨O,_⟩
  .exact this.trans e
  .exact absurd hb O
theorem Fl.loc(y:uW P gl st m T S fr' cs' w')(h:Fl P S S'):S.w.drawn<=S'.w.drawn/\S'.w.tape=S.w.tape/\∀τ,ux τ S.w S'.w->Fl P (S.on τ) (S'.on τ):=by
 cases h with
 |go h=>
  obtain⟨U,W,Y⟩:=Qo y.pg y.stack (kw y.ic y.stack) y.world h;exact⟨U,W,λτ O=>by obtain⟨es,e⟩:=Y τ O; exact .go e⟩
 |send h hc hb=>
  obtain⟨U,W,Y⟩:=NR y.pg y.stack (kw y.ic y.stack) y.world h;exact⟨U,W,λτ O=>by obtain⟨es,e⟩:=Y τ O; exact .send e hc hb⟩
def Ren.put(m:Ren)(r:Nat)(o:Obj):Ren:={m with kD:=λx=>if x=r then some o else m.kD x}
theorem Ren.ox(m:Ren)(r:Nat)(o:Obj):m.Le (m.put r o):=⟨λ_ _ h=>h,λ_ _ h=>h,λ_ _ _=>Iff.rfl,λ_ h=>h,rfl,rfl,rfl,rfl,rfl,rfl,rfl⟩
theorem WR.put(h:WR m w w'){r:Nat}{o:Obj}(ho:∃c b x s y t,o=.chan c b x s y t)(W:∃c b x s y t,w.heap[r]?=some (.chan c b x s y t)):WR (m.put r o) {w with heap:=w.heap.setIfInBounds r o} w':=by
 obtain⟨c0,b0,x0,s0,y0,t0,W⟩:=W;have aa:=jE W
 have ne:∀s s',m.blk s=some s'->r≠s:=by
  rintro s s' hb rfl;obtain⟨x,x',O,_,h3⟩:=h.obj _ _ hb;rw[W]at O;cases O;cases h3
 have get:∀s,r≠s->(w.heap.setIfInBounds r o)[s]?=w.heap[s]?:=λs U=>bk U;refine⟨λs s' hb=>?_,λs s' c e f c' e' f' hb O Y hn=>?_,λs s' c e f c' e' f' hb O Y hl=>?_,λs s' hb=>by simpa using h.LW s s' hb,(show m.G<=(w.heap.setIfInBounds r o).size by simpa using h.LX),h.Jd,h.os,λs x U=>?_,λs s' hb hl=>?_,λs U=>?_,λs i v hv=>?_⟩
 .obtain⟨x,x',O,Y,h3⟩:=h.obj s s' hb;exact⟨x,x',by rw[get s (ne s s' hb)]; exact O,Y,h3.mono (Ren.ox m r o)⟩
 .exact h.fz s s' _ _ _ _ _ _ hb (by rw[<-get s (ne s s' hb)]; exact O) Y hn
 .exact h.all s s' _ _ _ _ _ _ hb (by rw[<-get s (ne s s' hb)]; exact O) Y hl
 .by_cases e:s=r
  .subst e;simp only[Ren.put,if_true,db]at U;subst U;exact⟨by simp[aa],ho⟩
  .simp only[Ren.put,e,if_false]at U;obtain⟨g1,g2⟩:=h.kD s x U;exact⟨by rw[get s (gd e)]; exact g1,g2⟩
 .obtain⟨c,e,f,hx⟩:=h.lk s s' hb hl;exact⟨c,e,f,by rw[get s (ne s s' hb)]; exact hx⟩
 .obtain⟨O,c,e,f,hx⟩:=h.dead s U;refine⟨O,c,e,f,?_⟩;rw[get s]
  .exact hx
  .rintro rfl;rw[W]at hx;cases hx
 .obtain⟨s',hb,hp⟩:=h.rB s i v hv;exact⟨s',hb,λc e f c' e' f' x g1=>hp c e f c' e' f' x (by rw[<-get s (ne s s' hb)]; exact g1)⟩
theorem uW.own(y:uW P gl st m T S fr' cs' w')(hf:¬Fin P S)(h:Fl P S S'):∃dx eH eI w₁,uW P gl st dx T S' eH eI w₁:=by
 obtain⟨ad,Y,aa,_⟩:=align y.world;have hn:=kw y.ic y.stack
 cases h with
 |go h=>
  obtain⟨dx,f,c,jn,es,_,h1,h2,h3,h4,_⟩:=xQ (main':=true) y.pg y.stack hn (λa b c d=>hf ⟨a,b,c,d⟩) Y aa h;exact⟨dx,f,c,jn,y.pg.mono h1,by rw[h1.ic]; exact y.ic,λr r' hr=>by rw[h4.ml y.ic]at hr; rw[h4.kD]; exact y.op r r' hr,h2,h3⟩
 |@send _ _ _ f0 c0 r v z w₁ es cap buf gD W tm h hc hb=>
  obtain⟨f1,c1,dx,ab,ac,k',jn,ae,e0,_,_,h1,h2,h3,h4,h5,_⟩:=sO (main':=true) y.pg y.stack hn Y aa h
  obtain⟨rfl,rfl⟩:f0=f1/\c0=c1:=by
   have:=congrArg fk e0;have h':=congrArg fd e0;exact⟨this,h'⟩
  have O:=(h2.pR).finish (VR.undef dx);refine⟨dx.put r (.chan cap (buf.push v) false (gD+1) W tm),ab.finish gA,ac,jn,(y.pg.mono h1).mono (Ren.ox ..),?_,?_,?_,?_⟩
  .show ¬dx.ic;rw[h1.ic]; exact y.ic
  .intro s s' U;by_cases e:s=r
   .exact⟨cap,buf.push v,gD+1,W,tm,by simp[Ren.put,e]⟩
   .have U:dx.ch s=some s':=U;rw[h5.ml y.ic]at U;obtain⟨a,b,c,d,e',hx⟩:=y.op s s' U;exact⟨a,b,c,d,e',by simp only[Ren.put,e,if_false]; rw[h5.kD]; exact hx⟩
  .exact(h2.set (.refl dx) O.1 O.2.1 O.2.2 (eZ ..) (gN ..)).mono (Ren.ox ..)
  .exact h4.put ⟨_,_,_,_,_,_,rfl⟩ ⟨_,_,_,_,_,_,hc⟩
theorem Lt:Extern.next "fmt's door" = none:=by rfl
theorem K0(v:Value)(w:World):∃o w',step P (b8 ((door P).finish v) [] w)=.ended o w':=by
 have:bw P true {frame:=(door P).finish v,callers:=[],status:=.running,dying:=none} w=.ended (.stuck ("no extern row " ++ "fmt's door") (di P ((door P).finish v))) w:=by
  have e:=Lt;simp only[door,Frame.finish,bw,c8,e,Option.elim]
 exact⟨_,_,bA rfl⟩
theorem Ev(c:List PanicEntry)(w:World):∃o w',step P (b8 ((door P).raise c) [] w)=.ended o w':=by
 have y:de P ((door P).raise c)=true:=by
  simp[door,dk,de]
 have:∃o,bw P true {frame:=(door P).raise c,callers:=[],status:=.running,dying:=none} w=.ended o w:=by
  have hm:((door P).raise c).mode=.panicking c:=rfl;have O:((door P).raise c).defers=[]:=rfl
  exact⟨_,by
   unfold bw;unfold b4;simp only[hm,O,y,if_true]
   rfl⟩
 obtain⟨o,this⟩:=this;exact⟨_,_,bA (by rw[this]; rfl)⟩
theorem Bi(hS:dQ P m T (S.fr::S.cs) (fr'::cs'))(hf:Fin P S)(n:Nat){y:LS}(hc:y.cs≠[]):b9 P (n+1) S.m≠.next y.m:=by
 obtain⟨fr,cs,w⟩:=S;obtain⟨h1,h2,W,h4⟩:=hf;simp only at h1 h2 W h4 hc hS;subst h1
 have hk:=by cases hS with|one _ h _ _=>exact h
                                    |cons _ _ _ h=>cases h
 intro e
 have fin:(∃v w2,step P (b8 fr [door P] w)=.next (b8 ((door P).finish v) [] w2))\/(∃v w2,step P (b8 fr [door P] w)=.next (b8 ((door P).raise v) [] w2))\/∃o w2,step P (b8 fr [door P] w)=.ended o w2:=by
  cases hm:fr.mode with
  |run=>exact absurd hm h2
  |panicking ch=>
   by_cases Y:fr.catches P=true
   .refine .inr (.inr ?_)
    have:∃o,bw P true {frame:=fr,callers:=[door P],status:=.running,dying:=none} w=.ended o w:=by
     exact⟨_,by
      unfold bw;unfold b4;simp only[hm,W,Y,if_true]
      rfl⟩
    obtain⟨o,this⟩:=this;exact⟨_,_,bA (by rw[this]; rfl)⟩
   .refine .inr (.inl ⟨ch,w,bE ?_⟩);unfold bw;unfold b4;simp[hm,W,Y]
  |returning=>
   cases hp:P.funcs[fr.fn]? with
   |none=>
    refine .inl ⟨fr.tmps.getD 0 gA,w,bE ?_⟩;simp[bw,b4,bz,hm,W,hk,hp]
   |some fn=>
    cases hr:(results fn fr.tmps).run P w with
    |ok v w2=>
     refine .inl ⟨v,w2,bE ?_⟩;simp[bw,b4,bz,hm,W,hk,hp,hr]
    |halt x w2=>
     refine .inr (.inr ?_)
     have:∃o,(bw P true {frame:=fr,callers:=[door P],status:=.running,dying:=none} w).bare=.ended o w2:=by
      cases x<;>exact⟨_,by simp[bw,b4,bz,hm,W,hk,hp,hr]; rfl⟩
     obtain⟨o,this⟩:=this;exact⟨_,_,bA this⟩
 have two:∀(f:Frame)(w2:World),(∃o w',step P (b8 f [] w2)=.ended o w')->step P (b8 fr [door P] w)=.next (b8 f [] w2)->False:=by
  rintro f w2 ⟨o,w3,hh⟩ U;have O:b9 P _ (b8 fr _ w)=.next _:=e;simp only[b9,U]at O
  cases n with
  |zero=>
   simp only[b9,fb]at O;exact hc (E5 O).2.1.symm
  |succ n=>
   simp only[b9,hh]at O;cases O
 rcases fin with⟨v,w2,U⟩|⟨v,w2,U⟩|⟨o,w2,U⟩
 .exact two _ _ (K0 v w2) U
 .exact two _ _ (Ev v w2) U
 .have O:b9 P _ (b8 fr _ w)=.next _:=e;simp only[b9,U]at O;cases O
end
end
section
open Go.Conc
variable {S':LS} {w':World}
def lA(P:Program)(Stop:LS->Prop)(S:LS):Prop:=∀τ,Am τ S.w->∃n y,b9 P n (S.on τ).m=.next (LS.m y)/\Stop y/\y.cs≠[]
def yi(Stop:LS->Prop):Prop:=∀S τ,Stop (S.on τ)->Stop S
def nB(P:Program)(Stop:LS->Prop)(S' S:LS):Prop:=¬Stop S/\∃τ,Am τ S.w/\Fl P (S.on τ) S'
def tZ(P:Program)(S:LS):Prop:=∃gl st m T fr' cs' w',uW P gl st m T S fr' cs' w'
theorem WR.tp{m:Ren}{w:World}(h:WR m w w')(τ:Nat->Question->Nat):WR m (tp w τ) w':=⟨h.obj,h.fz,h.all,h.LW,h.LX,h.Jd,h.os,h.kD,h.lk,h.dead,h.rB⟩
section
variable {P:Program} {m:Ren} {T:List Frame} {gl:Nat->Prop} {st:Bool} {Stop:LS->Prop}
theorem uW.on{S:LS}{fr':Frame}{cs':List Frame}(h:uW P gl st m T S fr' cs' w')(τ:Nat->Question->Nat):uW P gl st m T (S.on τ) fr' cs' w':=⟨h.pg,h.ic,h.op,h.stack,h.world.tp τ⟩
theorem I9(w:World):Am w.tape w:=λ_ _=>rfl
theorem SI(S:LS)(τ y:Nat->Question->Nat):(S.on τ).on y=S.on y:=rfl
theorem lA.step(hB:yi Stop){S:LS}(y:tZ P S)(hH:lA P Stop S)(hn:¬Stop S)(τ:Nat->Question->Nat)(U:Am τ S.w):¬Fin P S/\∃S',Fl P (S.on τ) S':=by
 obtain⟨gl,st,m,T,fr',cs',w',y⟩:=y;obtain⟨n,W,O,h2,h3⟩:=hH τ U
 cases n with
 |zero=>
  simp only[b9,fb]at O;obtain rfl:=LS.Js O;exact absurd (hB _ _ h2) hn
 |succ n=>
  refine⟨λY=>Bi (m:=m) (T:=T) (S:=S.on τ) (y.on τ).stack ⟨Y.1,Y.2⟩ n h3 O,?_⟩;obtain⟨S',g,_⟩:=A1 (y.on τ).pg y.ic y.op (y.on τ).stack (y.on τ).world O;exact⟨S',g⟩
theorem tZ.own{S:LS}(y:tZ P S)(O:¬Fin P S)(h:Fl P S S'):tZ P S':=by
 obtain⟨gl,st,m,T,fr',cs',w',y⟩:=y;obtain⟨dx,f,c,w,h⟩:=y.own O h;exact⟨gl,st,dx,T,f,c,w,h⟩
theorem tZ.on{S:LS}(y:tZ P S)(τ:Nat->Question->Nat):tZ P (S.on τ):=by
 obtain⟨gl,st,m,T,fr',cs',w',y⟩:=y;exact⟨gl,st,m,T,fr',cs',w',y.on τ⟩
theorem xY{S:LS}(y:tZ P S)(h:Fl P S S'):S.w.drawn<=S'.w.drawn/\S'.w.tape=S.w.tape/\∀τ,ux τ S.w S'.w->Fl P (S.on τ) (S'.on τ):=by
 obtain⟨gl,st,m,T,fr',cs',w',y⟩:=y;exact h.loc y
theorem lA.own(hB:yi Stop){S:LS}(hs:tZ P S)(hH:lA P Stop S)(h:nB P Stop S' S):tZ P S'/\lA P Stop S':=by
 obtain⟨hn,τ,U,ho⟩:=h;have hf:=(hH.step hB hs hn τ U).1;refine⟨(hs.on τ).own (λx=>hf ⟨x.1,x.2⟩) ho,λO y=>?_⟩;obtain⟨h1,h2,h3⟩:=xY (hs.on τ) ho;have h1:S.w.drawn<=S'.w.drawn:=h1;have h2:S'.w.tape=τ:=h2
 have W:=h3 O λi _ b=>by
  rw[y i b,h2]; rfl
 rw[SI]at W
 have hb:Am O _:=λi hi=>by
  rw[y i (c9 hi h1),h2]; exact U i hi
 obtain⟨n,Y,g1,g2,g3⟩:=hH O hb
 cases n with
 |zero=>
  simp only[b9,fb]at g1;obtain rfl:=LS.Js g1;exact absurd (hB _ _ g2) hn
 |succ n=>
  simp only[b9,W.next]at g1;exact⟨n,Y,g1,g2,g3⟩
theorem OY{α:Type}{r:α->α->Prop}{x:α}(h:¬Acc r x):∃y,r y x/\¬Acc r y:=by
 by_cases O:∃y,r y x/\¬Acc r y
 .exact O
 .exact absurd (Acc.intro x λy U=>en λW=>O ⟨y,U,W⟩) h
open Classical in
theorem lA.acc(hB:yi Stop){S:LS}(hs:tZ P S)(hH:lA P Stop S):Acc (nB P Stop) S:=by
 apply en;intro aa;let X:={S:LS // tZ P S/\lA P Stop S/\¬Acc (nB P Stop) S}
 have nx:∀x:X,∃y:X,nB P Stop y.1 x.1:=by
  rintro⟨x,h1,W,h3⟩;obtain⟨y,hr,hy⟩:=OY h3;have:=W.own hB h1 hr;exact⟨⟨y,this.1,this.2,hy⟩,hr⟩
 let f:=λx=>et (nx x);have hf:=λx=>ew (nx x);let s:Nat->X:=λn=>Nat.rec ⟨S,hs,hH,aa⟩ (λ_ x=>f x) n;have O:∀n,nB P Stop (s (n+1)).1 _:=λn=>hf _
 have one:∀n,(s n).1.w.drawn<=(s (n+1)).1.w.drawn/\(∀i,i<(s n).1.w.drawn->(s (n+1)).1.w.tape i=(s n).1.w.tape i):=by
  intro n;obtain⟨_,τ,U,ho⟩:=O n;obtain⟨h1,W,_⟩:=xY ((s n).2.1.on τ) ho;exact⟨h1,λi hi=>by rw[W]; exact U i hi⟩
 have mono:∀k n,(s n).1.w.drawn<=(s (n+k)).1.w.drawn/\(∀i,i<(s n).1.w.drawn->(s (n+k)).1.w.tape i=(s n).1.w.tape i):=by
  intro k
  induction k with
  |zero=>exact λn=>⟨cA _,λ_ _=>rfl⟩
  |succ k ih=>
   intro n;have a:=ih n;have b:=one (n+k);refine⟨cB a.1 b.1,λi hi=>?_⟩;have:=b.2 i (c9 hi a.1);exact this.trans (a.2 i hi)
 let τ:=λi=>if h:∃n,i<(s n).1.w.drawn then(s (et h)).1.w.tape i else λ_=>0
 have U:∀n i,i<(s n).1.w.drawn->τ i=(s n).1.w.tape i:=by
  intro n i hi;have hx:∃n,i<(s n).1.w.drawn:=⟨n,hi⟩;have e:τ i=(s _).1.w.tape i:=dif_pos hx;have hk:=ew hx;rw[e];generalize et hx=k at hk;rcases Nat.le_total k n with h|h
  .obtain⟨d,rfl⟩:=cD h;exact((mono d k).2 i hk).symm
  .obtain⟨d,rfl⟩:=cD h;exact(mono d n).2 i hi
 have go:∀n,Fl P ((s n).1.on τ) ((s (n+1)).1.on τ):=by
  intro n;obtain⟨_,Y,hb,ho⟩:=O n;obtain⟨h1,W,h3⟩:=xY ((s n).2.1.on Y) ho;have W:(s (n+1)).1.w.tape=Y:=W
  exact h3 τ λi _ hi=>by
   rw[U (n+1) i hi,W]; rfl
 have run:∀n k,b9 P n ((s k).1.on τ).m=.next ((s (k+n)).1.on τ).m:=by
  intro n
  induction n with
  |zero=>exact λk=>rfl
  |succ n ih=>
   intro k;simp only[b9,(go k).next];rw[ih (k+1),Nat.add_right_comm];rfl
 obtain⟨n,ab,g1,g2,_⟩:=hH τ λi hi=>U 0 i hi;have:=run n 0;rw[Nat.zero_add]at this;have e:=this.symm.trans g1;simp only[fb]at e;obtain rfl:=LS.Js e;exact(O n).1 (hB _ _ g2)
end
end
section
open Go.Conc
variable {fr':Frame} {S:LS} {cs':List Frame} {w' jn:World}
section
variable {P:Program} {m:Ren} {T:List Frame} {gl:Nat->Prop} {st:Bool} {Stop:LS->Prop}
theorem WR.rely{w:World}(h:WR m w w')(U:∀r r',m.blk r=some r'->jn.heap[r']?=w'.heap[r']?)(hs:w'.heap.size<=jn.heap.size)(ho:jn.os=w'.os):WR m w jn:=by
 refine⟨λr r' hb=>?_,λr r' c e f W Y f' hb y O hn=>?_,λr r' c e f W Y f' hb y O hl=>?_,λr r' hb=>?_,h.LX,cB h.Jd hs,ho.trans h.os,h.kD,h.lk,h.dead,λr i v hv=>?_⟩
 .obtain⟨o,o',y,O,h3⟩:=h.obj r r' hb;exact⟨o,o',y,by rw[U r r' hb]; exact O,h3⟩
 .exact h.fz r r' _ _ _ _ _ _ hb y (by rw[<-U r r' hb]; exact O) hn
 .exact h.all r r' _ _ _ _ _ _ hb y (by rw[<-U r r' hb]; exact O) hl
 .have:=h.LW r r' hb;exact⟨this.1,c9 this.2 hs⟩
 .obtain⟨r',hb,hp⟩:=h.rB r i v hv;exact⟨r',hb,λc e f W Y f' x g1 g2=>hp c e f W Y f' x g1 (by rw[<-U r r' hb]; exact g2)⟩
theorem uW.rely(h:uW P gl st m T S fr' cs' w')(y:∀r r',m.blk r=some r'->jn.heap[r']?=w'.heap[r']?)(O:w'.heap.size<=jn.heap.size)(U:jn.os=w'.os):uW P gl st m T S fr' cs' jn:=⟨h.pg,h.ic,h.op,h.stack,h.world.rely y O U⟩
structure py(P:Program)(gl:Nat->Prop)(st:Bool)(m:Ren)(T:List Frame)(S:LS)(r r':Nat)(v v':Value)(fr':Frame)(cs':List Frame)(w':World):Prop where
 pg:l5 P m gl st
 ic:¬m.ic
 op:Open m
 ch:m.ch r=some r'
 val:VR m v v'
 rD:∃f0 wl cap buf gD rcvd tm,S=⟨f0.finish gA,S.cs,{wl with heap:=wl.heap.setIfInBounds r (.chan cap (buf.push v) false (gD+1) rcvd tm)}⟩/\dQ P m T (f0::S.cs) (fr'::cs')/\WR m wl w'/\wl.heap[r]?=some (.chan cap buf false gD rcvd tm)/\buf.size<cap
theorem py.rely{r r':Nat}{v O:Value}(h:py P gl st m T S r r' v O fr' cs' w')(U:∀r r',m.blk r=some r'->jn.heap[r']?=w'.heap[r']?)(W:w'.heap.size<=jn.heap.size)(Y:jn.os=w'.os):py P gl st m T S r r' v O fr' cs' jn:=by
 obtain⟨f0,wl,cap,buf,gD,y,tm,h1,h2,h3,h4⟩:=h.rD;exact⟨h.pg,h.ic,h.op,h.ch,h.val,f0,wl,cap,buf,gD,y,tm,h1,h2,h3.rely U W Y,h4⟩
theorem py.done{r r':Nat}{v v':Value}(h:py P gl st m T S r r' v v' fr' cs' w'):∃o,uW P gl st (m.put r o) T S (fr'.finish gA) cs' w':=by
 obtain⟨f0,wl,cap,buf,gD,O,tm,W,Y,h3,h4,_⟩:=h.rD;have y:=Y.pR.finish (VR.undef m);refine⟨.chan cap (buf.push v) false (gD+1) O tm,h.pg.mono (Ren.ox ..),h.ic,λs s' U=>?_,?_,?_⟩
 .by_cases e:s=r
  .exact⟨cap,buf.push v,gD+1,O,tm,by simp[Ren.put,e]⟩
  .obtain⟨a,b,c,d,e',hx⟩:=h.op s s' U;exact⟨a,b,c,d,e',by simp only[Ren.put,e,if_false]; exact hx⟩
 .rw[W];exact(Y.set (.refl m) y.1 y.2.1 y.2.2 (eZ ..) (gN ..)).mono (Ren.ox ..)
 .rw[W];exact h3.put ⟨_,_,_,_,_,_,rfl⟩ ⟨_,_,_,_,_,_,h4⟩
inductive Does(P:Program)(gl:Nat->Prop)(st:Bool)(Stop:LS->Prop)(m:Ren)(T:List Frame)(S:LS)(w':World):GStep->Prop
 |go {S' dx eH eI w₁ es}:nB P Stop S' S->m.Le dx->uW P gl st dx T S' eH eI w₁->fv m dx w' w₁->(∀e∈es,oy dx e)->Does P gl st Stop m T S w' (.go (G eH eI) w₁ es)
 |send {S' dx eH eI w₁ es r r' v v' z'}:nB P Stop S' S->m.Le dx->py P gl st dx T S' r r' v v' eH eI w₁->fv m dx w' w₁->(∀e∈es,oy dx e)->Does P gl st Stop m T S w' (.comm (G eH eI) #[⟨.chan (some r'),some v',z'⟩] true .send w₁ es)
def along(w w':World):Nat->Question->Nat:=λi=>if i<w.drawn then w.tape i else w'.tape (w'.drawn+(i-w.drawn))
theorem Fh(w w':World):Am (along w w') w:=λi hi=>by simp[along,hi]
theorem oU(w w':World):Al (tp w (along w w')) w':=λi q=>by
 show w'.tape _ q=along w w' (w.drawn+i) q;have:¬w.drawn+i<w.drawn:=by omega
 simp[along,this]
theorem uW.SR(hB:yi Stop)(O:uW P gl st m T S fr' cs' w')(hH:lA P Stop S)(hn:¬Stop S)(main':Bool):Does P gl st Stop m T S w' (bw P main' (G fr' cs') w'):=by
 have hb:=Fh S.w w';have ae:=oU S.w w';obtain⟨hf,S',ho⟩:=hH.step hB ⟨_,_,_,_,_,_,_,O⟩ hn _ hb;have hg:nB P Stop S' S:=⟨hn,_,hb,ho⟩;have y:=O.on (along S.w w');have W:=kw y.ic y.stack;generalize ab:S.on _=S0 at ho y W;have U:Al S0.w w':=by rw[<-ab]; exact ae
 have af:¬Fin P S0:=by rw[<-ab]; exact λx=>hf ⟨x.1,x.2⟩
 cases ho with
 |go h=>
  obtain⟨dx,f,c,jn,es,e,Y,h2,h3,h4,h5⟩:=xQ (main':=main') y.pg y.stack W (λa b c d=>af ⟨a,b,c,d⟩) y.world U h;rw[e];exact .go hg Y ⟨O.pg.mono Y,by rw[Y.ic]; exact O.ic,λr r' hr=>by rw[h4.ml O.ic]at hr; rw[h4.kD]; exact O.op r r' hr,h2,h3⟩ h4 h5
 |@send _ _ _ f0 c0 r v z w₁ es cap buf gD ac tm h hc ag=>
  obtain⟨f1,c1,dx,al,am,k',jn,an,e0,e,_,Y,h2,h3,h4,h5,h6⟩:=sO (main':=main') y.pg y.stack W y.world U h;obtain⟨rfl,rfl⟩:f0=f1/\c0=c1:=⟨congrArg fk e0,congrArg fd e0⟩;obtain⟨kl⟩:=k'
  cases h3 with
  |@cons _ q _ _ hx aa=>
   cases aa;obtain⟨ao,ap,aq⟩:=q;have ah:=hx.chan;have ai:=hx.send
   cases ah with
   |@chan _ r' aj=>
   cases ai with
   |@some _ v' hv=>
   rw[e];have ak:Open dx:=λs s' ad=>by rw[h5.ml O.ic]at ad; rw[h5.kD]; exact O.op s s' ad
   exact .send hg Y ⟨O.pg.mono Y,by rw[Y.ic]; exact O.ic,ak,aj,hv,f0,w₁,cap,buf,gD,ac,tm,rfl,h2,h4,hc,ag⟩ h5 h6
end
end
section
open Go.Conc
variable {es:Array Event} {fn:bI} {m':Ren} {pos:String}
def kS:Go.Loc->Option Nat
 |.cell a=>some a.block
 |.obj r=>some r
 |_=>none
def n4(t:b5)(g:Nat)(m:Ren):Prop:=∀p a b r,bZ t p=some a->kS a.loc=some b->m.blk r=some b->(m.loose r->a.write=true)->cm t g p
def Mf(t:b5)(B:Nat):Prop:=∀p a b,bZ t p=some a->kS a.loc=some b->b<B
def nD(m m':Ren):Prop:=∀r r' b,m.blk r=some b->m'.blk r'=some b->m.loose r/\m'.loose r'
theorem nD.symm{m:Ren}(h:nD m m'):nD m' m:=λr r' b x y=>⟨(h r' r b y x).2,(h r' r b y x).1⟩
section
variable {t u:b5} {g:Nat} {m dx:Ren} {B:Nat}
theorem lU{e:Event}(h:oy m e){x:Touch}(y:(ef e).touch?=some x)(hm:x.loc.isMemory=true):∃b r,kS x.loc=some b/\m.blk r=some b/\(m.loose r->x.write=false):=by
 obtain⟨loc,wr,W⟩:=e
 cases loc with
 |cell a=>
  obtain⟨U,Y,ha,hw⟩:=h;simp only[ef,ek,db]at y;subst y;refine⟨a.block,Y.block,rfl,ha.blk,λO=>?_⟩
  cases wr with
  |false=>rfl
  |true=>exact absurd O (hw rfl)
 |obj r=>
  obtain⟨U,r0,hb,O⟩:=h;subst U;cases wr <;>(simp only[ef,ek,db]at y; subst y; exact⟨r,r0,rfl,hb,λx=>absurd x O⟩)
 |mark k=>
  have hk:=h;cases k<;>first|exact hk.elim|(simp[ef,ek]at y)
 |output=>
  cases wr<;>cases W <;>(simp only[ef,ek,db]at y; subst y; simp[Go.Loc.isMemory]at hm)
 |goroutines=>exact h.elim
theorem n4.grow(h:n4 t g m)(U:m.Le dx)(W:Mf t B)(Y:∀r b,dx.blk r=some b->m.blk r=some b\/B<=b):n4 t g dx:=by
 intro p a b r O hb hr hw;rcases Y r b hr with x|x
 .exact h p a b r O hb x λy=>hw ((U.loose r b x).2 y)
 .have:=W p a b O hb;omega
theorem dW{p:Nat}{a:Touch}(h:bZ (t++u) p=some a):(p<t.size/\bZ t p=some a)\/∃op,op∈u/\(t++u)[p]?=some op/\op.act.touch?=some a:=by
 obtain⟨op,y,U⟩:=touch_of h;rcases getElem?_append_cases y with⟨W,O⟩|⟨_,O⟩
 .exact .inl ⟨W,by rw[touchAt_of O]; exact U⟩
 .exact .inr ⟨op,O,y,U⟩
theorem n4.own(h:n4 t g m):n4 (t++cZ g fn pos es) g m:=by
 intro p a b r O hb U W;rcases dW O with⟨_,y⟩|⟨op,y,Y,_⟩
 .exact(h p a b r y hb U W).app _
 .have:=cq Y;obtain⟨e,_,rfl⟩:=bU y;exact this
theorem n4.other(h:n4 t g m)(hd:nD m m'){j:Nat}(he:∀e∈es,oy m' e):n4 (t++cZ j fn pos es) g m:=by
 intro p a b r ha hb U W;rcases dW ha with⟨_,y⟩|⟨op,y,_,h3⟩
 .exact(h p a b r y hb U W).app _
 .obtain⟨e,O,rfl⟩:=bU y
  have hm:a.loc.isMemory=true:=by
   cases hl:a.loc<;>rw[hl]at hb<;>simp[kS]at hb<;>rfl
  obtain⟨b',r',g1,g2,Y⟩:=lU (he e O) h3 hm;rw[hb]at g1;cases g1;obtain⟨l1,l2⟩:=hd r r' b U g2;rw[W l1]at Y;exact absurd (Y l2) (by simp)
theorem n4.clean(h:n4 t g m)(Y:∀said,¬bS said t)(he:∀e∈es,oy m e):∀said,¬bS said (t++cZ g fn pos es):=by
 intro said;refine cj (Y said) (λop y=>by obtain⟨e,_,rfl⟩:=bU y; rfl) λi a ha op y b hb O=>?_;obtain⟨e,U,rfl⟩:=bU y;obtain⟨W,h2,h3,_⟩:=O;obtain⟨b',r,g1,g2,g3⟩:=lU (he e U) hb (W▸h2);refine h i a b' r ha (by rw[W]; exact g1) g2 λhl=>?_;rcases h3 with x|x
 .exact x
 .rw[g3 hl]at x;cases x
theorem Mf.own(h:Mf t B){w:World}{wl:World}(U:WR m wl w)(W:B<=w.heap.size)(Y:∀e∈es,oy m e):Mf (t++cZ g fn pos es) w.heap.size:=by
 intro p a b ha hb;rcases dW ha with⟨_,y⟩|⟨op,y,_,h3⟩
 .exact c9 (h p a b y hb) W
 .obtain⟨e,O,rfl⟩:=bU y
  have hm:a.loc.isMemory=true:=by
   cases hl:a.loc<;>rw[hl]at hb<;>simp[kS]at hb<;>rfl
  obtain⟨b',r',g1,g2,g3⟩:=lU (Y e O) h3 hm;rw[hb]at g1;cases g1;exact(U.lt g2).2
end
end
section
open Go.Conc
def Ij{α:Type}(r:α->α->Prop)(n:Nat)(y q:Nat->α):Prop:=∃i,i<n/\r (y i) (q i)/\∀j,j≠i->y j=q j
theorem Oc{α:Type}{r:α->α->Prop}:∀(n:Nat)(q:Nat->α),(∀i,i<n->Acc r (q i))->Acc (Ij r n) q:=by
 intro n
 induction n with
 |zero=>exact λq _=>.intro q λY ⟨i,hi,_⟩=>absurd hi (Nat.not_lt_zero i)
 |succ n ih=>
  have key:∀x,Acc r x->∀q,q n=x->(∀i,i<n->Acc r (q i))->Acc (Ij r (n+1)) q:=by
   intro x hx
   induction hx with
   |intro x _ aa=>
    intro q U ft;have O:=ih q ft;revert U ft
    induction O with
    |intro q _ ab=>
     intro U ft;refine .intro q λY ⟨i,hi,hr,W⟩=>?_;by_cases e:i=n
     .subst e;exact aa _ (U▸hr) Y rfl λj y=>by rw[W j (Nat.ne_of_lt y)]; exact ft j y
     .have O:i<n:=by omega
      refine ab Y ⟨i,O,hr,W⟩ (by rw[W n (gd e)]; exact U) λj y=>?_;by_cases ej:j=i
      .subst ej;exact(ft j y).inv hr
      .rw[W j ej]; exact ft j y
  exact λq h=>key _ (h n (Nat.lt_succ_self n)) q rfl λi hi=>h i (Nat.lt_succ_of_lt hi)
section
variable {m dx m':Ren} {w w₁ wl wl':World} {B:Nat}
theorem nD.grow(h:nD m m')(O:m.Le dx)(U:fv m dx w w₁)(W:WR m' wl' w):nD dx m':=by
 intro r r' b Y y;rcases U.news r b Y with x|x
 .obtain⟨a,b⟩:=h r r' _ x y;exact⟨(O.loose r _ x).2 a,b⟩
 .have:=(W.lt y).2;omega
theorem fv.leaves(O:fv m dx w w₁)(W:nD m m')(Y:WR m' wl' w):∀r r',m'.blk r=some r'->w₁.heap[r']?=w.heap[r']?:=by
 intro r r' hb;by_cases U:∃s,m.blk s=some r'
 .obtain⟨s,y⟩:=U;exact O.still s r' y (W s r r' y hb).1
 .exact O.old r' (Y.lt hb).2 λs y=>U ⟨s,y⟩
theorem km(W:WR m wl w){c:Nat}{o:Obj}(O:∃a b x s y t,w.heap[c]?=some (.chan a b x s y t)):∀r r',m.blk r=some r'->(w.heap.setIfInBounds c o)[r']?=w.heap[r']?:=by
 intro r r' hb;refine bk ?_;rintro rfl;obtain⟨x,x',_,U,Y⟩:=W.obj r _ hb;obtain⟨a,b,y,s,z,t,O⟩:=O;rw[O]at U;cases U;cases Y
theorem fv.chan(W:fv m dx w w₁)(Y:WR m wl w){c:Nat}{a:Nat}{b:Array Value}{x:Bool}{s y:Nat}{t:Bool}(O:w.heap[c]?=some (.chan a b x s y t)):w₁.heap[c]?=some (.chan a b x s y t):=by
 rw[W.old c (jE O) λr hr=>?_]
 .exact O
 .obtain⟨o,o',_,U,h3⟩:=Y.obj r _ hr;rw[O]at U;cases U;cases h3
end
end
section
open Go.Conc
variable {fr':Frame} {cs':List Frame} {r:Nat} {w':World}
section
variable {P:Program} {m:Ren} {T:List Frame} {gl:Nat->Prop} {st:Bool} {Stop:LS->Prop}
def Holds(S:LS)(r:Nat)(l:List Value):Prop:=∃cap buf gD y tm,S.w.heap[r]?=some (.chan cap buf false gD y tm)/\buf.toList=l
theorem Holds.one{S:LS}{l y:List Value}(h:Holds S r l)(U:Holds S r y):l=y:=by
 obtain⟨_,_,_,_,_,W,rfl⟩:=h;obtain⟨_,_,_,_,_,O,rfl⟩:=U;rw[W]at O;cases O;rfl
theorem uW.SF{S S':LS}(y:uW P gl st m T S fr' cs' w')(hf:¬Fin P S)(h:Fl P S S'):∃dx eH eI w₁,uW P gl st dx T S' eH eI w₁/\dx.ch=m.ch/\∀r r' l,m.ch r=some r'->Holds S r l->Holds S' r l\/∃v,Holds S' r (l++[v]):=by
 obtain⟨aj,ad,ae,_⟩:=align y.world;have hn:=kw y.ic y.stack
 cases h with
 |go h=>
  obtain⟨dx,f,c,jn,es,_,h1,h2,h3,h4,_⟩:=xQ (main':=true) y.pg y.stack hn (λa b c d=>hf ⟨a,b,c,d⟩) ad ae h;refine⟨dx,f,c,jn,⟨y.pg.mono h1,by rw[h1.ic]; exact y.ic,λr r' hr=>by rw[h4.ml y.ic]at hr; rw[h4.kD]; exact y.op r r' hr,h2,h3⟩,h4.ml y.ic,λr r' l hr hl=>.inl ?_⟩;obtain⟨cap,buf,gD,O,tm,hx⟩:=y.op r r' hr;have a:=(y.world.kD r _ hx).1;have b:=(h3.kD r _ (by rw[h4.kD]; exact hx)).1;have:=hl.one ⟨cap,buf,gD,O,tm,a,rfl⟩;exact⟨cap,buf,gD,O,tm,b,this.symm⟩
 |@send _ _ _ f0 c0 r0 v z w₁ es cap buf gD O tm h hc hb=>
  obtain⟨f1,c1,dx,ag,ah,k',jn,ak,e0,_,_,h1,h2,h3,h4,h5,_⟩:=sO (main':=true) y.pg y.stack hn ad ae h;obtain⟨rfl,rfl⟩:f0=f1/\c0=c1:=⟨congrArg fk e0,congrArg fd e0⟩;have U:=(h2.pR).finish (VR.undef dx)
  have ai:Open (dx.put r0 (.chan cap (buf.push v) false (gD+1) O tm)):=by
   intro s s' aa;by_cases e:s=r0
   .exact⟨cap,buf.push v,gD+1,O,tm,by simp[Ren.put,e]⟩
   .have aa:dx.ch s=some s':=aa;rw[h5.ml y.ic]at aa;obtain⟨a,b,c,d,e',hx⟩:=y.op s s' aa;exact⟨a,b,c,d,e',by simp only[Ren.put,e,if_false]; rw[h5.kD]; exact hx⟩
  refine⟨dx.put r0 _,ag.finish gA,ah,jn,⟨(y.pg.mono h1).mono (Ren.ox ..),?_,ai,?_,h4.put ⟨_,_,_,_,_,_,rfl⟩ ⟨_,_,_,_,_,_,hc⟩⟩,h5.ml y.ic,λr r' l hr hl=>?_⟩
  .show ¬dx.ic;rw[h1.ic]; exact y.ic
  .exact(h2.set (.refl dx) U.1 U.2.1 U.2.2 (eZ ..) (gN ..)).mono (Ren.ox ..)
  .obtain⟨ab,ac,W,Y,af,hx⟩:=y.op r r' hr;have a:=(y.world.kD r _ hx).1;have b:=(h4.kD r _ (by rw[h5.kD]; exact hx)).1;have el:=hl.one ⟨ab,ac,W,Y,af,a,rfl⟩;by_cases e:r=r0
   .subst e;rw[hc]at b;cases b;refine .inr ⟨v,cap,buf.push v,gD+1,O,tm,?_,by rw[el]; simp⟩;simp[jE hc]
   .refine .inl ⟨ab,ac,W,Y,af,?_,el.symm⟩;rw[bk (gd e)];exact b
theorem zx{r':Nat}{L:List Value}:∀(n:Nat){m:Ren}{S:LS}{fr':Frame}{cs':List Frame}{w':World},uW P gl st m T S fr' cs' w'->m.ch r=some r'->∀{y:LS},b9 P n S.m=.next y.m->y.cs≠[]->Holds y r L->∀{l},Holds S r l->l <+: L
 |0,m,S,fr',cs',w',O,U,y,h,W,Y,l,hl=>by
  simp only[b9,fb]at h
  obtain rfl:=LS.Js h
  rw[hl.one Y];exact List.prefix_refl _
 |n+1,m,S,fr',cs',w',O,U,y,h,W,Y,l,hl=>by
  have hf:=λx=>Bi O.stack x n W h;obtain⟨S',ho,h2⟩:=A1 O.pg O.ic O.op O.stack O.world h;obtain⟨dx,f,c,w,aa,ab,hh⟩:=O.SF hf ho;have ih:=fun {l}=>zx (L:=L) n aa (by rw[ab]; exact U) h2 W Y (l:=l);rcases hh r r' l U hl with x|⟨v,x⟩
  .exact ih x
  .exact(List.prefix_append l _).trans (ih x)
theorem lA.prefix{S:LS}(O:uW P gl st m T S fr' cs' w')(U:lA P Stop S){r':Nat}(W:m.ch r=some r'){L:List Value}(Y:∀y,Stop y->Holds y r L){l:List Value}(hl:Holds S r l):l <+: L:=by
 obtain⟨n,y,h1,h2,h3⟩:=U _ (I9 _);exact zx n O W (S:=S) h1 h3 (Y _ h2) hl
theorem py.next{S:LS}{r':Nat}{v W:Value}(h:py P gl st m T S r r' v W fr' cs' w')(Y:lA P Stop S){L:List Value}(hL:∀y,Stop y->Holds y r L):∃l,Holds S r (l++[v])/\(l++[v]) <+: L:=by
 obtain⟨o,hs⟩:=h.done;obtain⟨f0,wl,cap,buf,gD,O,tm,h1,h2,h3,h4,_⟩:=h.rD
 have U:Holds S r (buf.toList++[v]):=by
  rw[h1];refine⟨cap,buf.push v,gD+1,O,tm,?_,by simp⟩;simp[jE h4]
 exact⟨_,U,Y.prefix hs (r':=r') h.ch hL U⟩
end
end
section
open Go.Conc
variable {buf:Array Value} {tm:Bool} {fr ps:Frame} {c cap r s:Nat} {w:World}
def Lv(P:Program):Nat->Goroutine->Prop
 |0,g=>g.status=.finished
 |n+1,g=>g.status=.finished\/(g.status=.running/\∃g',(∀w,bw P false g w=.go g' w #[])/\Lv P n g')
theorem Lv.status{P:Program}{n:Nat}{g:Goroutine}(h:Lv P n g):g.status=.running\/g.status=.finished:=by
 cases n with
 |zero=>exact .inr h
 |succ n=>exact h.elim .inr λx=>.inl x.1
theorem Lv.Dx{P:Program}:∀{n:Nat}{g:Goroutine},Lv P n g->QuitsD P n 0 g
 |0,_,h=>⟨h,rfl⟩
 |_+1,_,.inl h=>.inl ⟨h,rfl⟩
 |_+1,_,.inr ⟨h,g',y,O⟩=>.inr ⟨h,g',#[],by simp,y,O.Dx⟩
section
variable {P:Program}
theorem GZ(a:Array bN)(t:bN)(cs:Array Bool)(y:w.heap[c]?=some (.chan cap buf false s r tm)) :
  (invoke (.builtin .close a t cs) #[.chan (some c)]).runT P w #[]=(.ok (.value (.tuple #[])) {w with heap:=w.heap.setIfInBounds c (.chan cap buf true s r tm)},#[⟨.obj c,false,true⟩,⟨.obj c,true,true⟩]):=by
 obtain⟨k,e,O⟩:∃k,invoke (.builtin .close a t cs) #[.chan (some c)]=Sem.getObj c k/\k (.chan cap buf false s r tm)=Sem.setObj c .. := ⟨_,rfl,rfl⟩;rw[e]
 have U:(Sem.getObj c k).runT P w #[]=(k (.chan cap buf false s r tm)).runT P w (#[].push ⟨.obj c,false,true⟩):=by
  rw[cP];simp only[y];rfl
 rw[U,O];rw[cP];simp only[y];rfl
theorem closing{a:Array bN}{t:bN}{cs:Array Bool}(hm:fr.mode=.returning)(O:fr.defers=[⟨.builtin .close a t cs,#[.chan (some c)]⟩])(U:(P.funcs[fr.fn]?).any (·.norace)=false)(W:w.heap[c]?=some (.chan cap buf false s r tm)) :
  bw P false (G fr [ps]) w=.go (G {fr with defers:=[]} [ps]) {w with heap:=w.heap.setIfInBounds c (.chan cap buf true s r tm)} #[⟨.obj c,false,true⟩,⟨.obj c,true,true⟩]:=by
 have e:bw P false (G fr [ps]) w=b4 P false fr [ps] none w:=by unfold bw; simp only[G,hm]
 rw[e];obtain⟨fn,tmps,todo,defers,mode,y,round⟩:=fr;subst hm O;unfold b4;dsimp only;unfold bB;rw[GZ a t cs W];simp[bG,U,cK,G]
theorem CW{fn:Func}(hm:fr.mode=.returning)(hd:fr.defers=[])(hk:fr.kind=.deferred)(hf:P.funcs[fr.fn]?=some fn)(Y:fn.results=#[])(y:ps.mode=.panicking [bF])(U:ps.defers=[])(aa:P.funcs[ps.fn]?=none)(W:ps.todo=[]):Lv P 2 (G fr [ps]):=by
 refine .inr ⟨rfl,G ps [],λw=>?_,.inr ⟨rfl,{frame:=ps,callers:=[],status:=.finished,dying:=none},λw=>?_,rfl⟩⟩
 .have e:bw P false (G fr [ps]) w=b4 P false fr [ps] none w:=by unfold bw; simp only[G,hm]
  rw[e]
  have O:(results fn fr.tmps).runT P w #[]=(.ok (.tuple #[]) w,#[]):=by
   rw[Sem.runT_eq,results_none Y _ P w,events_results_none Y ..]
  unfold b4;simp only[hd,hm,hf,O];unfold bz;simp only[hk,y,bF];simp[bG,cK,G]
 .have e:bw P false (G ps []) w=b4 P false ps [] none w:=by unfold bw; simp only[G,y]
  rw[e];unfold b4;simp[U,y,de,W,bF]
end
end
section
open Go.Conc
section
variable {P:Program} {m:Ren} {T:List Frame} {gl:Nat->Prop} {st:Bool} {Stop:LS->Prop}
theorem uW.Rl{S:LS}{fr':Frame}{cs':List Frame}{w':World}(hs:uW P gl st m T S fr' cs' w'){rd r c:Nat}(h1:S.cs=[door P])(h2:S.fr.mode=.returning)(h3:S.fr.defers=[⟨.collected rd,#[.chan (some r)]⟩])(hd:m.dead rd)(hr:m.ch r=some c) :
  fr'.mode=.returning/\cs'=T/\(∃a t cs,fr'.defers=[⟨.builtin .close a t cs,#[.chan (some c)]⟩])/\Cq fr'.kind T/\fr'.fn=S.fr.fn:=by
 have hS:=hs.stack;have hF:=hS.pR;have y:=hF.mode;have O:=hF.defers;rw[h2]at y;rw[h3]at O;rw[h1]at hS;obtain⟨fn,tm,td,df,md,kd,ab⟩:=fr'
 have U:cs'=T/\Cq kd T:=by
  cases hS with
  |one _ _ hb _=>exact⟨rfl,hb⟩
  |cons _ _ _ h=>cases h
 cases y;refine⟨rfl,U.1,?_,U.2,hF.fn⟩
 cases O with
 |@cons _ d' _ l' hx W=>
  cases W;obtain⟨ac,aa⟩:=d';have ht:=hx.target;have ha:=hx.args
  have Y:aa=#[.chan (some c)]:=by
   obtain⟨al⟩:=aa
   cases ha with
   |cons hv hn=>
    cases hn
    cases hv with
    |chan hb=>
     rw[hr]at hb;cases hb;rfl
  subst Y
  cases ht with
  |collected hb=>
   rw[(hs.world.dead rd hd).1]at hb;cases hb
  |mark a t cs _=>exact⟨a,t,cs,rfl⟩
end
end
section
open Go.Conc
section
variable {P:Program} {gs:Array Goroutine} {w w₁:World} {sl:Option (Nat×Nat)} {i:Nat} {g rH:Goroutine} {es:Array Event} {cases:Array CommCase} {shape:CommShape} {blocking:Bool}
theorem Kc(n:Nat)(y:0<n)(w:World):∃a d,a<n/\(choose (.select n)).run P w=.ok a (w.at d):=by
 by_cases O:n<=1
 .exact⟨0,w.drawn,y,by simp[choose,cL,ge,O,World.at]⟩
 .refine⟨(Question.select n).cut (w.tape w.drawn (.select n)),w.drawn+1,?_,by simp[choose,cL,ge,O,World.at]⟩;exact Nat.mod_lt _ y
def jk(w:World)(gs:Array Goroutine)(cases:Array CommCase):List (Nat×CommCase×List Way):=(cases.zipIdx.toList.map λ(c,k)=>(k,c,ways w gs c)).filter λ(_,_,ws)=>!ws.isEmpty
theorem mem_ready{gs:Array Goroutine}{x:Nat×CommCase×List Way}(h:x∈jk w₁ gs cases):cases[x.1]?=some x.2.1/\x.2.2=ways w₁ gs x.2.1/\x.2.2≠[]:=by
 unfold jk at h;rw[cX,cY]at h;obtain⟨⟨⟨cc,k⟩,hm,rfl⟩,U⟩:=h;obtain⟨j,O⟩:=cT.1 hm;simp at O;obtain⟨_,y,rfl,rfl⟩:=O;refine⟨y,rfl,λe=>?_⟩;have e:ways w₁ gs _=[]:=e;simp[e]at U
theorem Mo{gs:Array Goroutine}{k:Nat}{cc:CommCase}(y:cases[k]?=some cc)(O:ways w₁ gs cc≠[]):jk w₁ gs cases≠[]:=by
 have:(k,cc,ways w₁ gs cc)∈jk w₁ gs cases:=by
  unfold jk;rw[cX,cY];refine⟨⟨(cc,k),?_,rfl⟩,?_⟩
  .refine cT.2 ⟨k,?_⟩;simp[y]
  .cases e:ways w₁ gs cc with
   |nil=>exact absurd e O
   |cons a l=>rfl
 intro e;rw[e]at this;cases this
theorem zN(hi:gs[i]?=some g)(h:bw P (i==0) g w=.comm rH cases blocking shape w₁ es)(aa:∀cc∈cases,c3 w₁ cc=false)
  (ab:∀(k:Nat)cc,cases[k]?=some cc->ways w₁ (gs.setIfInBounds i ph) cc=[]\/(∃c z cap buf s r tm,cc=bW c z/\w₁.heap[c]?=some (.chan cap buf true s r tm)/\ways w₁ (gs.setIfInBounds i ph) cc=[.closed])\/(∃c z cap buf cl s r tm j q,cc=bW c z/\w₁.heap[c]?=some (.chan cap buf cl s r tm)/\ways w₁ (gs.setIfInBounds i ph) cc=[.partner j q]))
  (af:∃(k:Nat)(cc:CommCase),cases[k]?=some cc/\ways w₁ (gs.setIfInBounds i ph) cc≠[]) :
  (∃(k:Nat)(c:Nat)(z:Value)(d:Nat),cases[k]?=some (bW c z)/\ways w₁ (gs.setIfInBounds i ph) (bW c z)=[.closed]/\bM P (bX gs w sl) i=(.next (bX (gs.setIfInBounds i (rH.finishComm P cases shape k z false)) (w₁.at d) sl),cZ i g.frame.fn g.frame.place es++#[{g:=i,fn:=rH.frame.fn,pos:=rH.frame.place,act:=.recvClosed c}]))\/
  (∃(k:Nat)(c:Nat)(z:Value)(d j q cap s r:Nat)(buf:Array Value)(cl tm:Bool),cases[k]?=some (bW c z)/\w₁.heap[c]?=some (.chan cap buf cl s r tm)/\ways w₁ (gs.setIfInBounds i ph) (bW c z)=[.partner j q]/\
    bM P (bX gs w sl) i=(.next (bX ((finishPartner P (gs.setIfInBounds i ph) j q gA).setIfInBounds i (rH.finishComm P cases shape k (bK (gs.setIfInBounds i ph) j q) true)) {w₁.at d with heap:=w₁.heap.setIfInBounds c (.chan cap buf cl (s+1) (r+1) tm)} sl),
     cZ i g.frame.fn g.frame.place es++#[{g:=j,fn:=((gs.setIfInBounds i ph).getD j default).frame.fn,pos:=((gs.setIfInBounds i ph).getD j default).frame.place,act:=.send c s},{g:=i,fn:=rH.frame.fn,pos:=rH.frame.place,act:=.recv c r cap},{g:=j,fn:=((gs.setIfInBounds i ph).getD j default).frame.fn,pos:=((gs.setIfInBounds i ph).getD j default).frame.place,act:=.sendDone c s},{g:=i,fn:=rH.frame.fn,pos:=rH.frame.place,act:=.recvDone c r}])):=by
 obtain⟨k0,ak,ag,ah⟩:=af;have ac:=Mo ag ah
 have ad:0<(jk w₁ (gs.setIfInBounds i ph) cases).length:=by
  cases W:jk w₁ (gs.setIfInBounds i ph) cases with
  |nil=>exact absurd W ac
  |cons a l=>simp
 obtain⟨a,d,ha,ai⟩:=Kc (P:=P) _ ad w₁;obtain⟨x,W⟩:∃x,(jk w₁ _ cases)[a]?=some x:=⟨_,List.getElem?_eq_getElem ha⟩;have ae:=mem_ready (cT.2 ⟨a,W⟩);obtain⟨k,cc,ws⟩:=x;obtain⟨h1,Y,h3⟩:=ae;have O:(jk w₁ (gs.setIfInBounds i ph) cases).getD a (0,default,[])=(k,cc,ws):=by simp[List.getD,W]
 have U:(jk w₁ (gs.setIfInBounds i ph) cases).isEmpty=false:=by
  cases W:jk w₁ _ cases with
  |nil=>exact absurd W ac
  |cons a l=>rfl
 rw[cu hi h];unfold bx;rw[if_neg (by rw[fa]; exact any_ill aa)]
 have y:∀(f:Nat->Sem (Nat×CommCase×Way)),((choose (.select (jk w₁ (gs.setIfInBounds i ph) cases).length)).bind f).run P w₁=(f a).run P (w₁.at d):=by
  intro f;rw[cN,ai];rfl
 have aj:(w₁.at d).heap=w₁.heap:=rfl;rcases ab k cc h1 with e|⟨c,z,cap,buf,s,r,tm,rfl,hc,e⟩|⟨c,z,cap,buf,cl,s,r,tm,j,q,rfl,hc,e⟩
 .rw[e]at Y;exact absurd Y h3
 .rw[e]at Y;subst Y;refine .inl ⟨k,c,z,d,h1,e,?_⟩;have hf:((cases.zipIdx.toList.map λ(c,k)=>(k,c,ways w₁ (gs.setIfInBounds i ph) c)).filter _)=jk w₁ _ cases:=rfl;simp only[hf,U,eC,if_false,bind,y,O];simp[choose,cL,ge,bind,cO,pure,bW,bX]
 .rw[e]at Y;subst Y;refine .inr ⟨k,c,z,d,j,q,cap,s,r,buf,cl,tm,h1,hc,e,?_⟩;have hf:((cases.zipIdx.toList.map λ(c,k)=>(k,c,ways w₁ (gs.setIfInBounds i ph) c)).filter _)=jk w₁ _ cases:=rfl;simp only[hf,U,eC,if_false,bind,y,O];simp[choose,cL,ge,bind,cO,pure,bW,bX,aj,hc]
end
end
section
open Go.Conc
variable {r z:MemOp} {i p pc pr:Nat}
def kI(t:b5):Prop:=∀op∈t,op.act≠.mark .disable/\op.act≠.mark .enable
section
variable {t u:b5}
theorem kI.append(O:kI t)(U:kI u):kI (t++u):=λop y=>(bu.1 y).elim (O op) (U op)
theorem kI.deaf(h:kI t)(g:Nat):∀i,t.deaf g i=0:=by
 intro i
 induction i with
 |zero=>rfl
 |succ i O=>
  unfold b5.deaf;split
  .rename_i y; exact absurd rfl (h _ (cv y)).1
  .rename_i y; exact absurd rfl (h _ (cv y)).2
  .exact O
theorem kI.heard(h:kI t){op:MemOp}(hi:t[i]?=some op):t.heard i:=⟨op.g,by simp[gy,hi],h.deaf ..⟩
theorem Kf(U:kI t){c:Nat}(W:t[pc]?=some z)(y:z.act=.close c)(Y:t[pr]?=some r)(O:r.act=.recvClosed c):bO t pc pr:=
 .single (.inr ⟨.closed (c:=c) (by simp[gx,W,y]) (by simp[gx,Y,O]),U.heard W,U.heard Y⟩)
theorem KA(W:kI t){c:Nat}(Y:t[pc]?=some z)(y:z.act=.close c)(U:t[pr]?=some r)(O:r.act=.recvClosed c)(hp:Before t p pc):cm t r.g p:=
 ⟨pr,r,U,rfl,.inr (hp.hb (Kf W Y y U O))⟩
theorem Hm(Y:kI t){c:Nat}(W:t[pc]?=some z)(O:z.act=.close c)(hr:t[pr]?=some r)(U:r.act=.recvClosed c){y:MemOp}(hy:t[p]?=some y)(hg:y.g=z.g)(hp:p<=pc):cm t r.g p:=by
 refine KA Y W O hr U ?_;rcases Nat.lt_or_eq_of_le hp with h|h
 .exact .inr (hb_po h hy W hg)
 .exact .inl h
theorem D6{n:Nat}{a b:MemOp}(Y:kI (t++#[a,b]))(ha:a.g=i)(O:a.act=.go n)(hb:b.g=n)(U:b.act=.start)(hp:cm t i p):cm (t++#[a,b]) n p:=by
 have W:(t++#[a,b])[t.size]?=some a:=by simp
 have y:(t++#[a,b])[t.size+1]?=some b:=by simp
 have e1:=hp.hb_new (cA _) W ha;have e2:bO .. := .single (.inr ⟨.spawn (child:=n) (by simp[gx,W,O]) (by simp[gx,y,U]) (by simp[gy,y,hb]),Y.heard W,Y.heard y⟩);exact⟨t.size+1,b,y,hb,.inr (e1.trans e2)⟩
theorem n4.mute{g:Nat}{m:Ren}(h:n4 t g m)(W:∀op∈u,op.act.touch?=none):n4 (t++u) g m:=by
 intro p x q r Y hq hr y;rcases dW Y with⟨_,O⟩|⟨op,O,_,U⟩
 .exact(h p x q r O hq hr y).app u
 .rw[W op O]at U; cases U
end
end
section
open Go.Conc
def lN(t:b5)(A:Nat->Prop):Prop:=∀p a,bZ t p=some a->a.loc.isMemory=true->cm t 0 p\/∃op,t[p]?=some op/\A op.g
section
variable {t u:b5} {A A':Nat->Prop}
theorem lN.mono(h:lN t A)(y:∀i,A i->A' i):lN t A':=λp a O hm=>(h p a O hm).imp id λ⟨op,U,W⟩=>⟨op,U,y _ W⟩
theorem lN.app(h:lN t A)(Y:∀op∈u,op.act.touch?=none\/op.g=0\/A op.g):lN (t++u) A:=by
 intro p a ha hm;rcases dW ha with⟨hp,O⟩|⟨op,O,U,W⟩
 .rcases h p a O hm with x|⟨op,x,y⟩
  .exact .inl (x.app u)
  .exact .inr ⟨op,by rw[cf hp]; exact x,y⟩
 .rcases Y op O with x|x|x
  .rw[x]at W; cases W
  .have:=cq U;rw[x]at this;exact .inl this
  .exact .inr ⟨op,U,x⟩
theorem lN.join(h:lN t A)(hw:kI t){j pc pr c:Nat}{z r:MemOp}(hz:t[pc]?=some z)(U:z.g=j)(W:z.act=.close c)(hr:t[pr]?=some r)(Y:r.g=0)(aa:r.act=.recvClosed c)(O:∀p a op,bZ t p=some a->t[p]?=some op->op.g=j->p<=pc):lN t λi=>A i/\i≠j:=by
 intro p a ha hm;rcases h p a ha hm with x|⟨op,x,y⟩
 .exact .inl x
 .by_cases e:op.g=j
  .have:=Hm hw hz W hr aa x (e.trans U.symm) (O p a op ha x e);rw[Y]at this;exact .inl this
  .exact .inr ⟨op,x,y,e⟩
theorem lN.over(h:lN t λ_=>False):t.HandedOver:=by
 intro i g Y y hc;obtain⟨x,hx,hm,_⟩:=hc;rcases h i x hx hm with⟨q,z,U,W,O⟩|⟨_,_,h⟩
 .refine⟨q,by simp[gy,U,W],?_⟩;rcases O with rfl|O
  .exact absurd (by simpa[gy,U,W]using Y.symm) y
  .exact O
 .exact h.elim
theorem N8{m:Ren}{e:Event}(h:oy m e):ef e≠.mark .disable/\ef e≠.mark .enable:=by
 obtain⟨loc,wr,y⟩:=e
 cases loc with
 |mark x=>
  have O:=h;cases x<;>first|exact O.elim|simp[ef]
 |_=>cases wr<;>cases y<;>simp[ef]
theorem A7(h:kI t){m:Ren}{g:Nat}{fn:bI}{pos:String}{es:Array Event}(U:∀e∈es,oy m e):kI (t++cZ g fn pos es):=by
 refine h.append λop y=>?_;obtain⟨e,O,rfl⟩:=bU y;exact N8 (U e O)
end
end
section
open Go.Conc
structure mK where
 gl:Nat->Prop
 T:List Frame
 Stop:LS->Prop
 r:Nat
 c:Nat
 rd:Nat
 L:List Value
 lh:Nat->Nat->Obj->Prop
structure mK.Ok(P:Program)(J:mK):Prop where
 blind:yi J.Stop
 holds:∀S,J.Stop S->Holds S J.r J.L
 Tb:∀S,J.Stop S->S.cs=[door P]/\S.fr.mode=.returning/\S.fr.defers=[⟨.collected J.rd,#[.chan (some J.r)]⟩]/\∃fn,P.funcs[S.fr.fn]?=some fn/\fn.results=#[]/\fn.norace=false
 back:∀S,J.Stop S->∀r b o,J.lh r b o->S.w.heap[r]?=some o/\∀(m:Go.Proofs.YtocbogeoffeolaaGreatDoor.Ren)o',OR m o o'->o'=o
 TI:∃ps,J.T=[ps]/\ps.mode=.panicking [bF]/\ps.defers=[]/\P.funcs[ps.fn]?=none/\ps.todo=[]
structure mK.Ren(J:mK)(m:Go.Proofs.YtocbogeoffeolaaGreatDoor.Ren):Prop where
 ch:m.ch J.r=some J.c
 only:∀r r',m.ch r=some r'->r=J.r
 dead:m.dead J.rd
 lh:∀r b o,J.lh r b o->m.blk r=some b
theorem mK.Ren.le{J:mK}{m dx:Go.Proofs.YtocbogeoffeolaaGreatDoor.Ren}(h:J.Ren m)(y:m.Le dx)(O:dx.ch=m.ch):J.Ren dx:=⟨by rw[O]; exact h.ch,λr r' x=>by rw[O]at x; exact h.only r r' x,by rw[y.dead]; exact h.dead,λr b o x=>y.blk r b (h.lh r b o x)⟩
structure mK.Act(P:Program)(J:mK)(m:Go.Proofs.YtocbogeoffeolaaGreatDoor.Ren)(S:LS)(n:Nat)(g:Goroutine)(w:World):Prop where
 mC:J.Ren m
 nj:lA P J.Stop S
 rD:∃fr' cs',g=G fr' cs'/\uW P J.gl false m J.T S fr' cs' w
 gD:∃l,Holds S J.r l/\l.length=n
structure mK.Ki(P:Program)(J:mK)(m:Go.Proofs.YtocbogeoffeolaaGreatDoor.Ren)(S:LS)(n:Nat)(v':Value)(g:Goroutine)(w:World):Prop where
 mC:J.Ren m
 nj:lA P J.Stop S
 rD:∃v fr' cs',g=G fr' cs'/\py P J.gl false m J.T S J.r J.c v v' fr' cs' w
 gD:∃l,Holds S J.r l/\l.length=n+1
section
variable {P:Program} {J:mK} {m:Go.Proofs.YtocbogeoffeolaaGreatDoor.Ren} {S:LS} {n:Nat} {g:Goroutine} {w:World}
theorem mK.Ki.value(W:J.Ok P){O:Value}(h:J.Ki P m S n O g w):∃v,J.L[n]?=some v/\VR m v O:=by
 obtain⟨v,fr',cs',_,U⟩:=h.rD;obtain⟨l,Y,hn⟩:=h.gD;obtain⟨l0,h1,h2⟩:=U.next h.nj W.holds;have e:=Y.one h1;subst e;have y:=by simpa using hn
 refine⟨v,?_,U.val⟩;obtain⟨tl,e⟩:=h2;rw[<-e,<-y];simp
theorem mK.Ki.done{y:Value}(h:J.Ki P m S n y g w):∃dx,m.Le dx/\dx.blk=m.blk/\dx.loose=m.loose/\J.Act P dx S (n+1) (bV g gA) w:=by
 obtain⟨v,fr',cs',rfl,O⟩:=h.rD;obtain⟨o,U⟩:=O.done;exact⟨m.put _ o,Ren.ox ..,rfl,rfl,h.mC.le (Ren.ox ..) rfl,h.nj,⟨_,_,rfl,U⟩,h.gD⟩
theorem mK.Act.stands(O:J.Ok P)(h:J.Act P m S n g w)(y:J.Stop S):n=J.L.length/\∃fr ps a t cs,g=G fr [ps]/\fr.mode=.returning/\fr.defers=[⟨.builtin .close a t cs,#[.chan (some J.c)]⟩]/\(P.funcs[fr.fn]?).any (·.norace)=false/\Lv P 2 (G {fr with defers:=[]} [ps]):=by
 obtain⟨fr',cs',rfl,hs⟩:=h.rD;obtain⟨l,hl,rfl⟩:=h.gD;obtain⟨f1,f2,f3,fn,f4,f5,f6⟩:=O.Tb S y;obtain⟨ps,U,W,p2,p3,p4⟩:=O.TI;obtain⟨g1,g2,⟨a,t,cs,g3⟩,g4,Y⟩:=hs.Rl f1 f2 f3 h.mC.dead h.mC.ch;refine⟨by rw[hl.one (O.holds S y)],fr',ps,a,t,cs,by rw[g2,U],g1,g3,by rw[Y,f4]; simp[f6],?_⟩
 have hk:fr'.kind=.deferred:=by
  rcases g4 with⟨_,h⟩|⟨h,_⟩
  .exact absurd W (h ps U)
  .exact h
 exact CW (fn:=fn) g1 rfl hk (by rw[Y]; exact f4) f5 W p2 p3 p4
end
end
section
open Go.Conc
inductive mK.Next(P:Program)(J:mK)(m:Go.Proofs.YtocbogeoffeolaaGreatDoor.Ren)(S:LS)(n:Nat)(w:World):GStep->Prop
 |go {S' dx g₁ w₁ es}:nB P J.Stop S' S->m.Le dx->J.Act P dx S' n g₁ w₁->fv m dx w w₁->(∀e∈es,oy dx e)->mK.Next P J m S n w (.go g₁ w₁ es)
 |send {S' dx g₁ w₁ es v' z'}:nB P J.Stop S' S->m.Le dx->J.Ki P dx S' n v' g₁ w₁->fv m dx w w₁->(∀e∈es,oy dx e)->mK.Next P J m S n w (.comm g₁ #[cd J.c v' z'] true .send w₁ es)
section
variable {P:Program} {J:mK} {m:Go.Proofs.YtocbogeoffeolaaGreatDoor.Ren} {S:LS} {n:Nat} {g:Goroutine} {w:World}
theorem Kd{T:List Frame}{gl:Nat->Prop}{st:Bool}{Stop:LS->Prop}{S S':LS}{fr':Frame}{cs':List Frame}{w':World}(O:yi Stop)(y:uW P gl st m T S fr' cs' w')(U:lA P Stop S)(W:nB P Stop S' S){r r':Nat}{l:List Value}(Y:m.ch r=some r')(hl:Holds S r l):Holds S' r l\/∃v,Holds S' r (l++[v]):=by
 obtain⟨hn,τ,hb,ho⟩:=W;have hf:=(U.step O ⟨_,_,_,_,_,_,_,y⟩ hn τ hb).1;obtain⟨_,_,_,_,_,_,h⟩:=(y.on τ).SF (λx=>hf ⟨x.1,x.2⟩) ho;exact h r r' l Y hl
theorem mK.Act.BD(hJ:J.Ok P)(h:J.Act P m S n g w)(hn:¬J.Stop S):mK.Next P J m S n w (bw P false g w):=by
 obtain⟨fr',cs',rfl,U⟩:=h.rD;obtain⟨l,hl,ab⟩:=h.gD;have hd:=U.SR hJ.blind h.nj hn false;generalize bw P false _ w=s at hd
 cases hd with
 |@go S' dx eH eI w₁ es hg O ac W he=>
  have hh:=(h.nj.own hJ.blind ⟨_,_,_,_,_,_,_,U⟩ hg).2;refine .go hg O ⟨h.mC.le O (W.ml U.ic),hh,⟨_,_,rfl,ac⟩,l,?_,ab⟩ W he;obtain⟨cap,buf,gD,y,tm,hx⟩:=U.op _ _ h.mC.ch;have a:=(U.world.kD _ _ hx).1;have b:=(ac.world.kD _ _ (by rw[W.kD]; exact hx)).1;have e:=hl.one ⟨cap,buf,gD,y,tm,a,rfl⟩;exact⟨cap,buf,gD,y,tm,b,e.symm⟩
 |@send S' dx eH eI w₁ es r r' v v' z' hg O hp W he=>
  have hh:=(h.nj.own hJ.blind ⟨_,_,_,_,_,_,_,U⟩ hg).2;have ad:=W.ml U.ic;have hr:m.ch r=some r':=by rw[<-ad]; exact hp.ch
  have er:=h.mC.only r r' hr;subst er;have ag:r'=J.c:=by rw[h.mC.ch]at hr; cases hr; rfl
  subst ag;refine .send hg O ⟨h.mC.le O ad,hh,⟨v,_,_,rfl,hp⟩,?_⟩ W he;obtain⟨l0,h1,_⟩:=hp.next hh hJ.holds;refine⟨l0++[v],h1,?_⟩;rcases Kd hJ.blind U h.nj hg h.mC.ch hl with x|⟨u,x⟩
  .obtain⟨f0,wl,cap,buf,gD,y,tm,e1,_,ah,hc,_⟩:=hp.rD;obtain⟨ae,af,Y,aa,ai,hx⟩:=U.op _ _ h.mC.ch;have a:=(U.world.kD _ _ hx).1;have b:=(ah.kD _ _ (by rw[W.kD]; exact hx)).1;have e:=hl.one ⟨ae,af,Y,aa,ai,a,rfl⟩;rw[hc]at b;cases b
   have hS:Holds S' J.r (buf.toList++[v]):=by
    rw[e1];refine⟨cap,buf.push v,gD+1,y,tm,?_,by simp⟩;simp[jE hc]
   have:=hS.one x;rw[e]at this;simp at this
  .have:=h1.one x;simp[this,ab]
end
end
section
open Go.Conc
variable {J:mK} {fx Pd:Nat->Prop} {m:Ren}
def qB(P:Program)(J:mK)(m:Ren)(S:LS):Nat->Goroutine->Prop
 |0,g=>g.status=.running/\∀w,WR m S.w w->∃fr' cs' d es,bw P false g w=.go (G fr' cs') (w.at d) es/\(∀e∈es,oy m e)/\uW P J.gl false m J.T S fr' cs' (w.at d)
 |k+1,g=>g.status=.running/\∀w,WR m S.w w->∃g' d es,bw P false g w=.go g' (w.at d) es/\(∀e∈es,oy m e)/\qB P J m S k g'
inductive ey
 |quit (q:Nat)
 |ended (heard:Bool) (J:mK) (m:Ren) (S:LS) (q:Nat)
 |act (J:mK) (m:Ren) (S:LS) (n:Nat)
 |jc (J:mK) (m:Ren) (S:LS) (n:Nat) (v:Value)
 |start (J:mK) (m:Ren) (S:LS) (k:Nat)
def ey.mC:ey->Option Ren
 |.quit _=>none
 |.ended _ _ m _ _|.act _ m _ _|.jc _ m _ _ _|.start _ m _ _=>some m
def ey.live:ey->Option Ren
 |.quit _|.ended .. => none
 |.act _ m _ _|.jc _ m _ _ _|.start _ m _ _=>some m
def ey.rE:ey->Option mK
 |.quit _=>none
 |.ended _ J _ _ _|.act J _ _ _|.jc J _ _ _ _|.start J _ _ _=>some J
def ey.chan:ey->Option mK
 |.quit _|.ended .. => none
 |.act J _ _ _|.jc J _ _ _ _|.start J _ _ _=>some J
def ey.sum:ey->Option (mK×Nat)
 |.quit _|.ended true .. => none
 |.ended false J _ _ _=>some (J,J.L.length)
 |.act J _ _ n|.jc J _ _ n _=>some (J,n)
 |.start J _ _ _=>some (J,0)
def fS(w:World)(c:Nat)(cl:Bool):Prop:=∃s r,w.heap[c]?=some (.chan 0 #[] cl s r false)
def At(P:Program)(w:World)(t:b5)(i:Nat)(g:Goroutine):ey->Prop
 |.quit q=>Lv P q g
 |.ended _ J m S q=>Lv P q g/\J.Ren m/\(J.Stop S/\J.Ok P)/\WR m S.w w/\fS w J.c true/\∃pc z,t[pc]?=some z/\z.g=i/\z.act=.close J.c/\∀p a op,bZ t p=some a->t[p]?=some op->op.g=i->p<=pc
 |.act J m S n=>J.Ok P/\fS w J.c false/\J.Act P m S n g w
 |.jc J m S n v=>J.Ok P/\fS w J.c false/\∃g0 z,g=parked g0 #[cd J.c v z] .send/\J.Ki P m S n v g0 w
 |.start J m S k=>J.Ok P/\fS w J.c false/\J.Ren m/\lA P J.Stop S/\Holds S J.r []/\WR m S.w w/\qB P J m S k g
section
variable {P:Program} {w w₁:World} {t u:b5} {i:Nat} {g:Goroutine} {ρ:ey}
theorem WR.at{wl:World}(h:WR m wl w)(d:Nat):WR m wl (w.at d):=h.rely (λ_ _ _=>rfl) (cA _) rfl
theorem qB.status{S:LS}{k:Nat}(h:qB P J m S k g):g.status=.running:=by cases k<;>exact h.1
theorem At.status(h:At P w t i g ρ):g.status=.running\/g.status=.blocked\/g.status=.finished:=by
 cases ρ with
 |quit q=>exact h.status.elim .inl λx=>.inr (.inr x)
 |ended y J m S q=>exact h.1.status.elim .inl λx=>.inr (.inr x)
 |act J m S n=>
  obtain⟨_,_,h⟩:=h;obtain⟨fr,cs,rfl,_⟩:=h.rD;exact .inl rfl
 |jc J m S n v=>
  obtain⟨_,_,g0,z,rfl,_⟩:=h;exact .inr (.inl rfl)
 |start J m S k=>exact .inl h.2.2.2.2.2.2.status
theorem At.wr(h:At P w t i g ρ)(hm:ρ.mC=some m):∃wl,WR m wl w:=by
 cases ρ with
 |quit q=>cases hm
 |ended W J m S q=>cases hm; exact⟨_,h.2.2.2.1⟩
 |act J m S n=>
  cases hm;obtain⟨_,_,h⟩:=h;obtain⟨fr,cs,rfl,y⟩:=h.rD;exact⟨_,y.world⟩
 |jc J m S n v=>
  cases hm;obtain⟨_,_,g0,z,rfl,O⟩:=h;obtain⟨_,_,_,_,y⟩:=O.rD;obtain⟨_,wl,_,_,_,_,_,_,_,U,_⟩:=y.rD;exact⟨wl,U⟩
 |start J m S k=>cases hm; exact⟨_,h.2.2.2.2.2.1⟩
theorem At.Tv(h:At P w t i g ρ)(hm:ρ.mC=some m)(y:ρ.rE=some J):J.Ren m:=by
 cases ρ with
 |quit q=>cases hm
 |ended U J m S q=>cases hm; cases y; exact h.2.1
 |act J m S n=>cases hm; cases y; exact h.2.2.mC
 |jc J m S n v=>
  cases hm; cases y;obtain⟨_,_,g0,z,rfl,O⟩:=h;exact O.mC
 |start J m S k=>cases hm; cases y; exact h.2.2.1
theorem At.is(h:At P w t i g ρ)(y:ρ.rE=some J):∃cl,fS w J.c cl:=by
 cases ρ with
 |quit q=>cases y
 |ended O J m S q=>cases y; exact⟨_,h.2.2.2.2.1⟩
 |act J m S n=>cases y; exact⟨_,h.2.1⟩
 |jc J m S n v=>cases y; exact⟨_,h.2.1⟩
 |start J m S k=>cases y; exact⟨_,h.2.1⟩
theorem At.rely(h:At P w t i g ρ)(hk:∀m,ρ.mC=some m->∀r b,m.blk r=some b->w₁.heap[b]?=w.heap[b]?)(hc:∀J,ρ.rE=some J->w₁.heap[J.c]?=w.heap[J.c]?)(hs:w.heap.size<=w₁.heap.size)(ho:w₁.os=w.os)(hu:∀op∈u,op.g=i->op.act.touch?=none):At P w₁ (t++u) i g ρ:=by
 have U:∀J cl,ρ.rE=some J->fS w J.c cl->fS w₁ J.c cl:=by
  rintro J cl hJ ⟨s,r,h⟩;exact⟨s,r,by rw[hc J hJ]; exact h⟩
 cases ρ with
 |quit q=>exact h
 |ended hd J m S q=>
  obtain⟨W,Y,y,h4,h5,pc,z,h6,h7,h8,h9⟩:=h;refine⟨W,Y,y,h4.rely (hk m rfl) hs ho,U J _ rfl h5,pc,z,by rw[cf (cn h6)]; exact h6,h7,h8,λp a op ha aa hg=>?_⟩;rcases dW ha with⟨hp,W⟩|⟨ab,x1,x2,x3⟩
  .exact h9 p a op W (by rw[<-cf hp]; exact aa) hg
  .rw[x2]at aa;cases aa;rw[hu _ x1 hg]at x3;cases x3
 |act J m S n=>
  obtain⟨W,Y,y⟩:=h;obtain⟨fr,cs,rfl,O⟩:=y.rD;exact⟨W,U J _ rfl Y,y.mC,y.nj,⟨fr,cs,rfl,O.rely (hk m rfl) hs ho⟩,y.gD⟩
 |jc J m S n v=>
  obtain⟨W,Y,g0,z,rfl,y⟩:=h;obtain⟨v0,fr,cs,e,O⟩:=y.rD;exact⟨W,U J _ rfl Y,g0,z,rfl,y.mC,y.nj,⟨v0,fr,cs,e,O.rely (hk m rfl) hs ho⟩,y.gD⟩
 |start J m S k=>
  obtain⟨W,Y,y,h4,h5,h6,h7⟩:=h;exact⟨W,U J _ rfl Y,y,h4,h5,h6.rely (hk m rfl) hs ho,h7⟩
theorem At.woken(h:At P w t i g ρ)(a y:Goroutine):c5 P a y w g=g:=by
 cases ρ with
 |quit q=>exact cy h.Dx
 |ended U J m S q=>exact cy h.1.Dx
 |act J m S n=>
  obtain⟨_,_,h⟩:=h;obtain⟨fr,cs,rfl,_⟩:=h.rD;exact woken_run rfl
 |jc J m S n v=>
  obtain⟨_,⟨s,r,O⟩,g0,z,rfl,_⟩:=h;exact woken_send_open a y O
 |start J m S k=>exact woken_run h.2.2.2.2.2.2.status
end
def Kn(fx:Nat->Prop)(ρ:Nat->ey)(t:b5):Prop:=∀p a b,bZ t p=some a->kS a.loc=some b->fx b->cm t 0 p\/∃i m' r,(ρ i).mC=some m'/\m'.blk r=some b
theorem Kn.app{ρ ρ':Nat->ey}{t u:b5}(h:Kn fx ρ t)(Y:∀i m' r b,(ρ i).mC=some m'->m'.blk r=some b->∃i' O r',(ρ' i').mC=some O/\O.blk r'=some b)(hu:∀op∈u,∀a b,op.act.touch?=some a->kS a.loc=some b->fx b->op.g=0\/∃i m' r,(ρ' i).mC=some m'/\m'.blk r=some b):Kn fx ρ' (t++u):=by
 intro p a b ha hb W;rcases dW ha with⟨_,U⟩|⟨op,U,h2,h3⟩
 .rcases h p a b U hb W with x|⟨i,m',r,x,y⟩
  .exact .inl (x.app u)
  .exact .inr (Y i m' r b x y)
 .rcases hu op U a b h3 hb W with x|x
  .have:=cq h2;rw[x]at this;exact .inl this
  .exact .inr x
theorem Kn.same{ρ ρ':Nat->ey}{t:b5}(h:Kn fx ρ t)(O:∀j,(ρ' j).mC=(ρ j).mC):Kn fx ρ' t:=λp a b U hb W=>(h p a b U hb W).imp id λ⟨i,m',r,x,y⟩=>⟨i,m',r,by rw[O]; exact x,y⟩
def RN(Pd fx:Nat->Prop)(ρ:Nat->ey)(w:World)(t:b5):Prop:=∀c,Pd c->fS w c false/\(∀p a,bZ t p=some a->kS a.loc≠some c)/\(∀i J,(ρ i).rE=some J->J.c≠c)/\¬fx c
theorem RN.app{ρ ρ':Nat->ey}{w w₁:World}{t u:b5}(h:RN Pd fx ρ w t)(W:∀j,(ρ' j).rE=(ρ j).rE)(Y:∀c,Pd c->fS w c false->w₁.heap[c]?=w.heap[c]?)(hu:∀op∈u,∀a c,op.act.touch?=some a->Pd c->fS w c false->kS a.loc≠some c):RN Pd fx ρ' w₁ (t++u):=by
 intro c O;obtain⟨⟨s,r,U⟩,h2,h3,h4⟩:=h c O;refine⟨⟨s,r,by rw[Y c O ⟨s,r,U⟩]; exact U⟩,λp a ha=>?_,λi J hJ=>h3 i J (by rw[<-W]; exact hJ),h4⟩;rcases dW ha with⟨_,x⟩|⟨op,x,_,y⟩
 .exact h2 p a x
 .exact hu op x a c y O ⟨s,r,U⟩
theorem RN.same{ρ ρ':Nat->ey}{w w₁:World}{t:b5}(h:RN Pd fx ρ w t)(y:∀j,(ρ' j).rE=(ρ j).rE)(O:w₁.heap=w.heap):RN Pd fx ρ' w₁ t:=by
 have:=h.app (u:=#[]) (w₁:=w₁) y (λc _ _=>by rw[O]) (by simp);simpa using this
def oF:Obj:=.deferred none
def Tj(fx:Nat->Prop)(w0:World)(ρ:Nat->ey):Prop:=∀b,b<w0.heap.size->fx b\/(∃i J r o,(ρ i).rE=some J/\J.lh r b o/\w0.heap[b]?=some o)\/w0.heap[b]?=some oF
theorem Tj.same{w0:World}{ρ ρ':Nat->ey}(h:Tj fx w0 ρ)(O:∀j,(ρ' j).rE=(ρ j).rE):Tj fx w0 ρ':=λb hb=>(h b hb).imp id λz=>z.imp (λ⟨i,J,r,o,x,y⟩=>⟨i,J,r,o,by rw[O]; exact x,y⟩) id
structure Co(P:Program)(fx:Nat->Prop)(w0:World)(Pd:Nat->Prop)(ρ:Nat->ey)(m:Ren)(wl:World)(gs:Array Goroutine)(w:World)(t:b5):Prop where
 main:WR m wl w
 at_:∀i g,0<i->gs[i]?=some g->At P w t i g (ρ i)
 out:∀i,i=0\/gs.size<=i->ρ i=.quit 0
 d0:∀i m',(ρ i).mC=some m'->nD m m'
 dd:∀i j m1 m2,i≠j->(ρ i).mC=some m1->(ρ j).mC=some m2->nD m1 m2
 cc:∀i j J1 J2,i≠j->(ρ i).rE=some J1->(ρ j).rE=some J2->J1.c≠J2.c
 s0:n4 t 0 m
 ss:∀i m',(ρ i).live=some m'->n4 t i m'
 L0:∀i J,(ρ i).chan=some J->∀p a,bZ t p=some a->kS a.loc≠some J.c
 low:Mf t w.heap.size
 hears:kI t
 jX:lN t λi=>(ρ i).sum≠none
 clean:∀said,¬bS said t
 fix:∀b,fx b->b<w.heap.size/\w.heap[b]?=w0.heap[b]?
 f0:∀r b,m.blk r=some b->fx b->m.loose r
 ff:∀i m',(ρ i).mC=some m'->∀r b,m'.blk r=some b->fx b->m'.loose r
 cx:∀i J,(ρ i).rE=some J->¬fx J.c
 sz:w0.heap.size<=w.heap.size
 os:w.os=w0.os/\w.output=w0.output
 kn:Kn fx ρ t
 pd:RN Pd fx ρ w t
 len:Tj fx w0 ρ
end
section
open Go.Conc
open Go.ConcN (upd upd_same upd_ne)
variable {es:Array Event} {fn:bI} {g':Goroutine} {J:mK} {c:Nat} {dx:Ren} {ρ':ey} {pos:String}
theorem fv.at(m:Ren)(w:World)(d:Nat):fv m m w (w.at d):=⟨λ_ _ _=>rfl,cA _,λr' h y=>absurd y (by show ¬r'<w.heap.size; omega),λ_ _ h=>.inl h,λ_ _ h=>.inl h,rfl,rfl,rfl,λ_=>rfl,rfl,λ_ _ _ _=>rfl⟩
theorem ey.ns{ρ:ey}{m:Ren}(h:ρ.live=some m):ρ.mC=some m:=by cases ρ<;>first|cases h; rfl|cases h
theorem ey.tO{ρ:ey}(h:ρ.chan=some J):ρ.rE=some J:=by cases ρ<;>first|cases h; rfl|cases h
theorem ey.Nj{ρ:ey}{m:Ren}(h:ρ.live=some m):ρ.sum≠none:=by cases ρ<;>first|(simp[ey.sum]; done)|cases h
theorem WR.zy{m:Ren}{wl w:World}(h:WR m wl w){cl:Bool}(O:fS w c cl){r:Nat}:m.blk r≠some c:=by
 intro W;obtain⟨s,y,O⟩:=O;obtain⟨o,o',_,U,Y⟩:=h.obj r c W;rw[O]at U;cases U;cases Y
theorem fv.OA{m:Ren}{w w₁ wl:World}(U:fv m dx w w₁)(W:WR m wl w){cl:Bool}(O:fS w c cl):w₁.heap[c]?=w.heap[c]?:=by
 obtain⟨s,y,O⟩:=O;rw[O];exact U.chan W O
theorem ofEvents_g{g:Nat}{op:MemOp}(h:op∈cZ g fn pos es):op.g=g:=by
 obtain⟨e,_,rfl⟩:=bU h;rfl
section
variable {P:Program} {fx:Nat->Prop} {w0:World} {Pd:Nat->Prop} {ρ:Nat->ey} {m:Ren} {wl:World} {gs gs':Array Goroutine} {w w₁:World} {t:b5}
theorem Co.get(h:Co P fx w0 Pd ρ m wl gs w t){i:Nat}(U:ρ i≠.quit 0):∃g,0<i/\gs[i]?=some g/\At P w t i g (ρ i):=by
 by_cases hi:i=0\/gs.size<=i
 .exact absurd (h.out i hi) U
 .have y:i<gs.size:=by omega
  have O:=bm y;exact⟨gs[i],by omega,O,h.at_ i _ (by omega) O⟩
theorem Co.wr(h:Co P fx w0 Pd ρ m wl gs w t){i:Nat}{m':Ren}(y:(ρ i).mC=some m'):∃wl',WR m' wl' w:=by
 obtain⟨g,_,_,O⟩:=h.get (i:=i) λe=>by rw[e]at y; cases y
 exact O.wr y
theorem Co.is(h:Co P fx w0 Pd ρ m wl gs w t){i:Nat}(y:(ρ i).rE=some J):∃cl,fS w J.c cl:=by
 obtain⟨g,_,_,O⟩:=h.get (i:=i) λe=>by rw[e]at y; cases y
 exact O.is y
theorem Co.step{i:Nat}{mi:Ren}{ah:World}(h:Co P fx w0 Pd ρ m wl gs w t)(hi:0<i)(az:i<gs.size)(hl:(ρ i).live=some mi)(ae:mi.Le dx)(Y:fv mi dx w w₁)(he:∀e∈es,oy dx e)(ab:WR dx ah w₁)
  (aj:At P w₁ (t++cZ i fn pos es) i g' ρ') (ak:ρ'.live=some dx) (ao:ρ'.rE=(ρ i).rE) (hc:ρ'.chan=(ρ i).chan) (hs:ρ'.sum=(ρ i).sum)
  (ap:gs'.size=gs.size) (aq:gs'[i]?=some g') (ar:∀j x,0<j->j≠i->gs'[j]?=some x->∃y,gs[j]?=some y/\(At P w₁ (t++cZ i fn pos es) j y (ρ j)->x=y)) :
  Co P fx w0 Pd (cJ ρ i ρ') m wl gs' w₁ (t++cZ i fn pos es):=by
 have hr:=ey.ns hl;have ad:=ey.ns ak;obtain⟨a0,au⟩:=h.wr hr;have W:∀c cl,fS w c cl->w₁.heap[c]?=w.heap[c]?:=λc cl x=>Y.OA au x
 have aa:∀j,(cJ ρ i ρ' j).rE=(ρ j).rE:=λj=>by
  by_cases e:j=i
  .subst e; rw[cH]; exact ao
  .rw[cI _ _ e]
 have al:∀j,(cJ ρ i ρ' j).chan=(ρ j).chan:=λj=>by
  by_cases e:j=i
  .subst e; rw[cH]; exact hc
  .rw[cI _ _ e]
 have ag:∀j,(cJ ρ i ρ' j).sum=(ρ j).sum:=λj=>by
  by_cases e:j=i
  .subst e; rw[cH]; exact hs
  .rw[cI _ _ e]
 have dm:nD m dx:=(nD.grow (h.d0 i mi hr).symm ae Y h.main).symm
 have dj:∀j m',j≠i->(ρ j).mC=some m'->nD dx m':=λj m' U O=>by
  obtain⟨wl',av⟩:=h.wr O;exact nD.grow (h.dd i j mi m' (gd U) hr O) ae Y av
 have hrel:∀j y,0<j->j≠i->gs[j]?=some y->At P w₁ (t++cZ i fn pos es) j y (ρ j):=by
  intro j y hj U hy;refine(h.at_ j y hj hy).rely (λm' O=>Y.leaves (h.dd i j mi m' (gd U) hr O) (h.wr O).choose_spec) (λJ hJ=>?_) Y.size Y.os λop ac hg=>absurd (ofEvents_g ac) (by rw[hg]; exact U);obtain⟨cl,hx⟩:=h.is hJ;exact W _ cl hx
 have aw:∀j x,0<j->gs'[j]?=some x->At P w₁ (t++cZ i fn pos es) j x (cJ ρ i ρ' j):=by
  intro j x am hx;by_cases e:j=i
  .subst e;rw[aq]at hx;cases hx;rw[cH]; exact aj
  .rw[cI _ _ e];obtain⟨y,hy,ax⟩:=ar j x am e hx;have:=hrel j y am e hy;rw[ax this]; exact this
 have si:n4 t i dx:=(h.ss i mi hl).grow ae h.low Y.news;refine⟨h.main.rely (Y.leaves (h.d0 i mi hr).symm h.main) Y.size Y.os,aw,λj hj=>?_,λj m' O=>?_,λj k m1 m2 U h1 h2=>?_,λj k J1 J2 U h1 h2=>h.cc j k J1 J2 U (by rw[<-aa]; exact h1) (by rw[<-aa]; exact h2),h.s0.other dm he,λj m' O=>?_,λj J hJ p a ha hb=>?_,h.low.own ab Y.size he,A7 h.hears he,?_,si.clean h.clean he,λb hb=>?_,h.f0,λj m' O r b an hb=>?_,λj J hJ=>h.cx j J (by rw[<-aa]; exact hJ),cB h.sz Y.size,⟨Y.os.trans h.os.1,Y.output.trans h.os.2⟩,h.kn.app (λj m' r b O hb=>?_) (λop ac a b ha hb _=>?_),h.pd.app aa (λc _ ai=>W c _ ai) (λop ac a c ha _ ai hb=>?_),h.len.same aa⟩
 .rw[cI _ _ (by rintro rfl; rcases hj with x|x<;>omega)];exact h.out j (by rw[<-ap]; exact hj)
 .by_cases e:j=i
  .subst e;rw[cH,ad]at O;cases O;exact dm
  .rw[cI _ _ e]at O;exact h.d0 j m' O
 .by_cases e:j=i
  .subst e;rw[cH,ad]at h1;cases h1;rw[cI _ _ (gd U)]at h2;exact dj k m2 (gd U) h2
  .rw[cI _ _ e]at h1;by_cases e':k=i
   .subst e';rw[cH,ad]at h2;cases h2;exact(dj j m1 e h1).symm
   .rw[cI _ _ e']at h2;exact h.dd j k m1 m2 U h1 h2
 .by_cases e:j=i
  .subst e;rw[cH,ak]at O;cases O;exact si.own
  .rw[cI _ _ e]at O;exact(h.ss j m' O).other (dj j m' e (ey.ns O)).symm he
 .rw[al]at hJ;rcases dW ha with⟨_,h1⟩|⟨op,h1,_,h3⟩
  .exact h.L0 j J hJ p a h1 hb
  .obtain⟨e,af,rfl⟩:=bU h1
   have hm:a.loc.isMemory=true:=by
    cases hl:a.loc<;>rw[hl]at hb<;>simp[kS]at hb<;>rfl
   obtain⟨b',r',g1,g2,g3⟩:=lU (he e af) h3 hm;rw[hb]at g1;cases g1;obtain⟨cl,s,y,hx⟩:=h.is (ey.tO hJ);have:fS w₁ _ cl:=⟨s,y,by rw[W _ cl ⟨s,y,hx⟩]; exact hx⟩;exact ab.zy this g2
 .refine(h.jX.mono λj hj=>by rw[ag]; exact hj).app λop ac=>.inr (.inr ?_);rw[ofEvents_g ac,ag];exact ey.Nj hl
 .obtain⟨h1,h2⟩:=h.fix b hb;refine⟨c9 h1 Y.size,?_⟩;rw[<-h2];by_cases hx:∃r,mi.blk r=some b
  .obtain⟨r,hx⟩:=hx;exact Y.still r b hx (h.ff i mi hr r b hx hb)
  .exact Y.old b h1 λr ay=>hx ⟨r,ay⟩
 .by_cases e:j=i
  .subst e;rw[cH,ad]at O;cases O;rcases Y.news r b an with x|x
   .exact(ae.loose r b x).2 (h.ff j mi hr r b x hb)
   .have:=(h.fix b hb).1;omega
  .rw[cI _ _ e]at O;exact h.ff j m' O r b an hb
 .by_cases e:j=i
  .subst e;rw[hr]at O;cases O;exact⟨j,dx,r,by rw[cH]; exact ad,ae.blk _ _ hb⟩
  .exact⟨j,m',r,by rw[cI _ _ e]; exact O,hb⟩
 .obtain⟨e,af,rfl⟩:=bU ac
  have hm:a.loc.isMemory=true:=by
   cases hl:a.loc<;>rw[hl]at hb<;>simp[kS]at hb<;>rfl
  obtain⟨b',r',g1,g2,g3⟩:=lU (he e af) ha hm;rw[hb]at g1;cases g1;exact .inr ⟨i,dx,r',by rw[cH]; exact ad,g2⟩
 .obtain⟨e,af,rfl⟩:=bU ac
  have hm:a.loc.isMemory=true:=by
   cases hl:a.loc<;>rw[hl]at hb<;>simp[kS]at hb<;>rfl
  obtain⟨b',r',g1,g2,g3⟩:=lU (he e af) ha hm;rw[hb]at g1;cases g1;obtain⟨s,y,hx⟩:=ai;exact ab.zy (cl:=false) ⟨s,y,by rw[W _ false ⟨s,y,hx⟩]; exact hx⟩ g2
theorem Co.Q7{i:Nat}(h:Co P fx w0 Pd ρ m wl gs w t)(d:Nat)(hi:0<i)(ag:i<gs.size)(aa:At P (w.at d) t i g' ρ')(hr:ρ'.mC=(ρ i).mC)(hl:ρ'.live=(ρ i).live)(O:ρ'.rE=(ρ i).rE)(hc:ρ'.chan=(ρ i).chan)(hs:ρ'.sum=(ρ i).sum)
  (ac:gs'.size=gs.size) (ad:gs'[i]?=some g') (ae:∀j x,0<j->j≠i->gs'[j]?=some x->∃y,gs[j]?=some y/\(At P (w.at d) t j y (ρ j)->x=y)) :
  Co P fx w0 Pd (cJ ρ i ρ') m wl gs' (w.at d) t:=by
 have key:∀{α:Type}(f:ey->α),f ρ'=f _->∀j,f (cJ ρ i ρ' j)=f (ρ j):=λf hf j=>by
  by_cases e:j=i
  .subst e; rw[cH]; exact hf
  .rw[cI _ _ e]
 have hrel:∀j y,0<j->gs[j]?=some y->At P (w.at d) t j y (ρ j):=by
  intro j y Y hy;have:=(h.at_ j y Y hy).rely (w₁:=w.at d) (u:=#[]) (λ_ _ _ _ _=>rfl) (λ_ _=>rfl) (cA _) rfl (by simp);simpa using this
 refine⟨h.main.at d,λj x ab hx=>?_,λj Y=>?_,λj m' U=>h.d0 j m' (by rw[<-key _ hr]; exact U),λj k m1 m2 W h1 h2=>h.dd j k m1 m2 W (by rw[<-key _ hr]; exact h1) (by rw[<-key _ hr]; exact h2),λj k J1 J2 W h1 h2=>h.cc j k J1 J2 W (by rw[<-key _ O]; exact h1) (by rw[<-key _ O]; exact h2),h.s0,λj m' U=>h.ss j m' (by rw[<-key _ hl]; exact U),λj J hJ=>h.L0 j J (by rw[<-key _ hc]; exact hJ),h.low,h.hears,h.jX.mono λj Y=>by rw[key _ hs]; exact Y,h.clean,h.fix,h.f0,λj m' U=>h.ff j m' (by rw[<-key _ hr]; exact U),λj J hJ=>h.cx j J (by rw[<-key _ O]; exact hJ),h.sz,h.os,h.kn.same (key _ hr),h.pd.same (key _ O) rfl,h.len.same (key _ O)⟩
 .by_cases e:j=i
  .subst e;rw[ad]at hx;cases hx;rw[cH]; exact aa
  .rw[cI _ _ e];obtain⟨y,hy,af⟩:=ae j x ab e hx;have:=hrel j y ab hy;rw[af this]; exact this
 .rw[cI _ _ (by rcases Y with x|x<;>omega)];exact h.out j (by rw[<-ac]; exact Y)
end
end
section
open Go.Conc
open Go.ConcN (upd upd_same upd_ne)
inductive iD(P:Program):ey->ey->Prop
 |quit {q}:iD P (.quit q) (.quit (q+1))
 |ended {h J m S q}:iD P (.ended h J m S q) (.ended h J m S (q+1))
 |close {J m S n m' S' q}:iD P (.ended false J m' S' q) (.act J m S n)
 |act {J m S n m' S' n'}:nB P J.Stop S' S->iD P (.act J m' S' n') (.act J m S n)
 |jc {J m S n m' S' n' v}:nB P J.Stop S' S->iD P (.jc J m' S' n' v) (.act J m S n)
 |start {J m S k}:iD P (.start J m S k) (.start J m S (k+1))
 |go {J m S k}:iD P (.act J m S 0) (.start J m S k)
section
variable {P:Program}
theorem DT(q:Nat):Acc (iD P) (.quit q):=by
 induction q with
 |zero=>exact .intro _ λy h=>by cases h
 |succ q O=>exact .intro _ λy h=>by cases h; exact O
theorem AZ(O:Bool)(J:mK)(m:Ren)(S:LS)(q:Nat):Acc (iD P) (.ended O J m S q):=by
 induction q with
 |zero=>exact .intro _ λy h=>by cases h
 |succ q U=>exact .intro _ λy h=>by cases h; exact U
theorem D3(J:mK)(m:Ren)(S:LS)(n:Nat)(v:Value):Acc (iD P) (.jc J m S n v):=.intro _ λy h=>by cases h
theorem CH{J:mK}{S:LS}(h:Acc (nB P J.Stop) S):∀(m:Ren)(n:Nat),Acc (iD P) (.act J m S n):=by
 induction h with
 |intro S _ U=>
  intro m n;refine .intro _ λy W=>?_
  cases W with
  |close=>exact AZ ..
  |act O=>exact U _ O ..
  |jc O=>exact D3 ..
theorem K4{J:mK}{S:LS}(h:Acc (nB P J.Stop) S)(m:Ren)(k:Nat):Acc (iD P) (.start J m S k):=by
 induction k with
 |zero=>exact .intro _ λy O=>by cases O; exact CH h ..
 |succ k U=>
  refine .intro _ λy O=>?_
  cases O with
  |start=>exact U
  |go=>exact CH h ..
theorem qB.Sh{J:mK}{m:Ren}{S:LS}:∀{k:Nat}{g:Goroutine},qB P J m S k g->∀{w:World},WR m S.w w->tZ P S
 |0,_,h,w,y=>by
  obtain⟨fr,cs,d,es,_,_,O⟩:=h.2 w y
  exact⟨_,_,_,_,_,_,_,O⟩
 |k+1,_,h,w,y=>by
  obtain⟨g',d,es,_,_,O⟩:=h.2 w y;exact O.Sh y
theorem At.acc{w:World}{t:b5}{i:Nat}{g:Goroutine}{ρ:ey}(h:At P w t i g ρ):Acc (iD P) ρ:=by
 cases ρ with
 |quit q=>exact DT q
 |ended hd J m S q=>exact AZ ..
 |act J m S n=>
  obtain⟨y,_,O⟩:=h;obtain⟨fr,cs,_,U⟩:=O.rD;exact CH (O.nj.acc y.blind ⟨_,_,_,_,_,_,_,U⟩) ..
 |jc J m S n v=>exact D3 ..
 |start J m S k=>
  obtain⟨y,_,_,W,_,Y,h7⟩:=h;exact K4 (W.acc y.blind (h7.Sh Y)) ..
end
section
variable {P:Program} {fx:Nat->Prop} {w0:World} {Pd:Nat->Prop} {ρ:Nat->ey} {m:Ren} {wl:World} {gs gs':Array Goroutine} {w w₁:World} {t:b5}
theorem Co.acc(h:Co P fx w0 Pd ρ m wl gs w t):Acc (Ij (iD P) gs.size) ρ:=by
 refine Oc _ _ λi hi=>?_;by_cases e:i=0
 .rw[h.out i (.inl e)]; exact DT 0
 .exact(h.at_ i _ (by omega) (bm hi)).acc
theorem Kv(i:Nat)(fn:bI)(pos:String)(c:Nat):cZ i fn pos #[⟨.obj c,false,true⟩,⟨.obj c,true,true⟩]=#[{g:=i,fn,pos,act:=.access ⟨.obj c,false,true⟩},{g:=i,fn,pos,act:=.close c}]:=by
 rw[ci];simp[ef]
theorem Co.close{i:Nat}{g':Goroutine}{J:mK}{mi:Ren}{S:LS}{n s r:Nat}{fn:bI}{pos:String}(h:Co P fx w0 Pd ρ m wl gs w t)(hi:0<i)(aq:i<gs.size)(ac:ρ i=.act J mi S n)(ar:J.Stop S)(hn:n=J.L.length)(ao:WR mi S.w w)(hc:w.heap[J.c]?=some (.chan 0 #[] false s r false))(au:Lv P 2 g')
  (ag:w₁={w with heap:=w.heap.setIfInBounds J.c (.chan 0 #[] true s r false)}) (av:gs'.size=gs.size) (aw:gs'[i]?=some g')
  (ap:∀j x,0<j->j≠i->gs'[j]?=some x->∃y,gs[j]?=some y/\(At P w₁ (t++cZ i fn pos #[⟨.obj J.c,false,true⟩,⟨.obj J.c,true,true⟩]) j y (ρ j)->x=y)) :
  Co P fx w0 Pd (cJ ρ i (.ended false J mi S 2)) m wl gs' w₁ (t++cZ i fn pos #[⟨.obj J.c,false,true⟩,⟨.obj J.c,true,true⟩]):=by
 subst ag;have ae:J.c<w.heap.size:=jE hc;have U:w.heap.size<=(w.heap.setIfInBounds J.c (.chan 0 #[] true s r false)).size:=by simp
 have ah:∃a b x s y t,w.heap[J.c]?=some (.chan a b x s y t):=⟨_,_,_,_,_,_,hc⟩
 have key:∀{α:Type}(f:ey->α),f (.ended false J mi S 2)=f (ρ i)->∀j,f (cJ ρ i (.ended false J mi S 2) j)=f (ρ j):=λf hf j=>by
  by_cases e:j=i
  .subst e; rw[cH]; exact hf
  .rw[cI _ _ e]
 have kr:=key ey.mC (by rw[ac]; rfl);have kj:=key ey.rE (by rw[ac]; rfl);have ks:=key ey.sum (by rw[ac,hn]; rfl);have ad:(ρ i).rE=some J:=by rw[ac]; rfl
 have ax:(ρ i).chan=some J:=by rw[ac]; rfl
 have kl:∀j m',(cJ ρ i (.ended false J mi S 2) j).live=some m'->j≠i/\(ρ j).live=some m':=λj m' hx=>by
  by_cases e:j=i
  .subst e; rw[cH]at hx; cases hx
  .rw[cI _ _ e]at hx; exact⟨e,hx⟩
 have kc:∀j J',(cJ ρ i (.ended false J mi S 2) j).chan=some J'->j≠i/\(ρ j).chan=some J':=λj J' hx=>by
  by_cases e:j=i
  .subst e; rw[cH]at hx; cases hx
  .rw[cI _ _ e]at hx; exact⟨e,hx⟩
 have aa:=Kv i fn pos J.c;generalize hu:cZ i fn pos #[⟨.obj J.c,false,true⟩,⟨.obj J.c,true,true⟩]=u at aa ap⊢;have ai:∀op∈u,op.g=i:=by rw[<-hu]; exact λop O=>ofEvents_g O
 have Y:∀op∈u,∀a,op.act.touch?=some a->a=⟨.obj J.c,false,.atomic⟩:=by
  intro op O a ha;rw[aa]at O;simp only[cW,cR,cQ,or_false]at O;rcases O with rfl|rfl
  .simp only[ek,db]at ha; exact ha.symm
  .cases ha
 have af:∀j m' wl',n4 t j m'->WR m' wl' w->n4 (t++u) j m':=by
  intro j m' wl' hs hw p a b rr ha hb hr ay;rcases dW ha with⟨_,h1⟩|⟨op,h1,_,h3⟩
  .exact(hs p a b rr h1 hb hr ay).app u
  .have:=Y op h1 a h3;subst this;cases hb;exact absurd hr (hw.zy ⟨s,r,hc⟩)
 refine⟨h.main.rely (km h.main ah) U rfl,λj x aj hx=>?_,λj hj=>?_,λj m' W=>h.d0 j m' (by rw[<-kr]; exact W),λj k m1 m2 ak h1 h2=>h.dd j k m1 m2 ak (by rw[<-kr]; exact h1) (by rw[<-kr]; exact h2),λj k J1 J2 ak h1 h2=>h.cc j k J1 J2 ak (by rw[<-kj]; exact h1) (by rw[<-kj]; exact h2),af 0 m wl h.s0 h.main,λj m' W=>?_,λj J' ab p a ha hb=>?_,λp a b ha hb=>?_,h.hears.append λop O=>?_,?_,λsaid=>?_,λb hb=>?_,h.f0,λj m' W=>h.ff j m' (by rw[<-kr]; exact W),λj J' ab=>h.cx j J' (by rw[<-kj]; exact ab),cB h.sz U,h.os,h.kn.app (λj m' r b W hb=>⟨j,m',r,by rw[kr]; exact W,hb⟩) (λop O a b ha hb az=>?_),h.pd.app kj (λc al _=>bk ((h.pd c al).2.2.1 i J ad)) (λop O a c ha al _ hb=>?_),h.len.same kj⟩
 .by_cases e:j=i
  .subst e;rw[aw]at hx;cases hx;rw[cH];have am:=h.at_ j gs[j] aj (bm aq);rw[ac]at am;refine⟨au,am.2.2.mC,⟨ar,am.1⟩,ao.rely (km ao ah) U rfl,⟨s,r,by simp[ae]⟩,t.size+1,{g:=j,fn,pos,act:=.close J.c},by rw[aa]; simp,rfl,rfl,λp a op ha O hg=>?_⟩;have:p<(t++u).size:=cn O;rw[aa]at this;simp at this;omega
  .rw[cI _ _ e];obtain⟨y,hy,a0⟩:=ap j x aj e hx
   have:At P {w with heap:=w.heap.setIfInBounds J.c (.chan 0 #[] true s r false)} (t++u) j y (ρ j):=by
    refine(h.at_ j y aj hy).rely (λm' W=>?_) (λJ' ab=>?_) U rfl λop O hg=>absurd (ai op O) (by rw[hg]; exact e)
    .obtain⟨wl',an⟩:=h.wr W;exact km an ah
    .exact bk (h.cc i j J J' (gd e) ad ab)
   rw[a0 this]; exact this
 .rw[cI _ _ (by rcases hj with x|x<;>omega)];exact h.out j (by rw[<-av]; exact hj)
 .obtain⟨e,W⟩:=kl j m' W;obtain⟨wl',an⟩:=h.wr (ey.ns W);exact af j m' wl' (h.ss j m' W) an
 .obtain⟨e,ab⟩:=kc j J' ab;rcases dW ha with⟨_,h1⟩|⟨op,h1,_,h3⟩
  .exact h.L0 j J' ab p a h1 hb
  .have:=Y op h1 a h3;subst this;simp only[kS,db]at hb;exact h.cc i j J J' (gd e) ad (ey.tO ab) hb
 .rcases dW ha with⟨_,h1⟩|⟨op,h1,_,h3⟩
  .exact c9 (h.low p a b h1 hb) U
  .have:=Y op h1 a h3;subst this;simp only[kS,db]at hb;subst hb;exact c9 ae U
 .rw[aa]at O;simp only[cW,cR,cQ,or_false]at O;rcases O with rfl|rfl<;>simp
 .refine(h.jX.mono λj hj=>by rw[ks]; exact hj).app λop O=>.inr (.inr ?_);rw[ai op O,ks,ac];simp[ey.sum]
 .refine cj (h.clean said) ai λq a ha op O b hb a3=>?_;have:=Y op O b hb;subst this;exact absurd (by rw[a3.1]; rfl) (h.L0 i J ax q a ha)
 .obtain⟨h1,h2⟩:=h.fix b hb;refine⟨c9 h1 U,?_⟩;rw[<-h2];exact bk (by rintro rfl; exact h.cx i J ad hb)
 .have:=Y op O a ha;subst this;cases hb;exact absurd az (h.cx i J ad)
 .have:=Y op O a ha;subst this;simp only[kS,db]at hb;exact(h.pd c al).2.2.1 i J ad hb
end
end
section
open Go.Conc
open Go.ConcN (upd upd_same upd_ne)
variable {a g:Goroutine} {r:ey} {u:b5}
section
variable {P:Program} {fx:Nat->Prop} {w0:World} {Pd:Nat->Prop} {ρ:Nat->ey} {m:Ren} {wl:World} {gs gs':Array Goroutine} {w w₁:World} {t:b5} {sl:Option (Nat×Nat)}
theorem At.offers{i:Nat}{ρ:ey}(h:At P w t i g ρ)(c:Nat):bY g c false=[]:=by
 cases ρ with
 |quit q=>exact bT (by rcases Lv.status h with x|x<;>rw[x]<;>simp) ..
 |ended y J m S q=>exact bT (by rcases h.1.status with x|x<;>rw[x]<;>simp) ..
 |act J m S n=>
  obtain⟨_,_,h⟩:=h;obtain⟨fr,cs,rfl,_⟩:=h.rD;exact bT (by simp[G]) ..
 |jc J m S n v=>
  obtain⟨_,_,g0,z,rfl,_⟩:=h;exact offersAt_parked_send' ..
 |start J m S k=>exact bT (by rw[h.2.2.2.2.2.2.status]; simp) ..
theorem rm{n i:Nat}(hi:i<n)(h:iD P r (ρ i)):Ij (iD P) n (cJ ρ i r) ρ:=⟨i,hi,by rw[cH]; exact h,λj y=>cI _ _ y⟩
theorem rp{i:Nat}(h:r.sum=(ρ i).sum)(j:Nat):(cJ ρ i r j).sum=(ρ j).sum:=by
 by_cases e:j=i
 .subst e; rw[cH]; exact h
 .rw[cI _ _ e]
theorem oW{i:Nat}{g':Goroutine}(w₁:World):∀j x,0<j->j≠i->((gs.map (woken P g g' w₁)).setIfInBounds i g')[j]?=some x->∃y,gs[j]?=some y/\(At P w₁ u j y (ρ j)->x=y):=by
 intro j x _ O U;rw[bk (gd O),bt]at U;obtain⟨y,W,rfl⟩:=Option.map_eq_some_iff.1 U;exact⟨y,W,λh=>h.woken g g'⟩
theorem yx{i:Nat}{g':Goroutine}(w₁:World):∀j x,0<j->j≠i->(gs.setIfInBounds i g')[j]?=some x->∃y,gs[j]?=some y/\(At P w₁ u j y (ρ j)->x=y):=by
 intro j x _ O U;rw[bk (gd O)]at U;exact⟨x,U,λ_=>rfl⟩
theorem IZ{i:Nat}{g':Goroutine}(hi:0<i)(y:gs[0]?=some a):((gs.map (woken P g g' w₁)).setIfInBounds i g')[0]?=some (woken P g g' w₁ a):=by
 rw[bk (by omega),bt,y];rfl
theorem OL(g g' a:Goroutine)(w:World):woken P g g' w a=a\/woken P g g' w a=a.again w:=by
 unfold woken;split
 .exact .inr rfl
 .exact .inl rfl
theorem Co.other{i:Nat}(h:Co P fx w0 Pd ρ m wl gs w t)(hi:0<i)(hg:gs[i]?=some g)(ad:g.status=.running)(h0:gs[0]?=some a)(an:∀J mi S n g₁ cs w₁ es,ρ i=.act J mi S n->bw P false g w=.comm g₁ cs true .send w₁ es->bY a J.c false=[]) :
  ∃gs' w' ops ρ',bM P (bX gs w sl) i=(.next (bX gs' w' sl),ops)/\Co P fx w0 Pd ρ' m wl gs' w' (t++ops)/\Ij (iD P) gs.size ρ' ρ/\(∀j,(ρ' j).sum=(ρ j).sum)/\gs'.size=gs.size/\((gs'[0]?=some a/\∀j,(ρ' j).chan=(ρ j).chan)\/gs'[0]?=some (a.again w'))/\(∀J mi S n v,ρ' i=.jc J mi S n v->bY a J.c false=[])/\(∀j,j≠i->ρ' j=ρ j):=by
 have U:i<gs.size:=(bn.1 hg).1;have ae:(i==0)=false:=by simp; omega
 have Y:=h.at_ i g hi hg
 have lv:∀q,Lv P q g->∃q' g',q=q'+1/\(∀w,bw P false g w=.go g' w #[])/\Lv P q' g':=by
  intro q hq
  cases q with
  |zero=>rw[show g.status=.finished from hq]at ad; cases ad
  |succ q=>
   rcases hq with x|⟨_,g',x,y⟩
   .rw[x]at ad; cases ad
   .exact⟨q,g',rfl,x,y⟩
 have aw:w.at w.drawn=w:=rfl
 have ac:∀r:ey,r.chan=(ρ i).chan->∀j,(cJ ρ i r j).chan=(ρ j).chan:=λr hr j=>by
  by_cases e:j=i
  .subst e; rw[cH]; exact hr
  .rw[cI _ _ e]
 have zero:∀(g':Goroutine)(w₁:World)(r:ey),r.chan=(ρ i).chan->((((gs.map (woken P g g' w₁)).setIfInBounds i g')[0]?=some a/\∀j,(cJ ρ i r j).chan=(ρ j).chan)\/((gs.map (woken P g g' w₁)).setIfInBounds i g')[0]?=some (a.again w₁)):=by
  intro g' w₁ r hr;rw[IZ hi h0];rcases OL (P:=P) g g' a w₁ with x|x
  .exact .inl ⟨by rw[x],ac r hr⟩
  .exact .inr (by rw[x])
 cases O:ρ i with
 |quit q=>
  rw[O]at Y;obtain⟨q',g',rfl,hs,hq⟩:=lv q Y;have W:=cb (P:=P) (sl:=sl) (i:=i) hg (by rw[ae]; exact hs w);have e0:cZ i g.frame.fn g.frame.place #[]=#[]:=by rw[ci]; simp
  rw[e0]at W;refine⟨_,w,_,cJ ρ i (.quit q'),W,?_,rm U (by rw[O]; exact .quit),rp (by rw[O]; rfl),by simp,zero g' w _ (by rw[O]; rfl),λ_ _ _ _ _ x=>(by rw[cH]at x; cases x),λj hj=>cI _ _ hj⟩;rw[br];exact h.Q7 (gs':=(gs.map (woken P g g' w)).setIfInBounds i g') w.drawn hi U (ρ':=.quit q') (g':=g') hq (by rw[O]; rfl) (by rw[O]; rfl) (by rw[O]; rfl) (by rw[O]; rfl) (by rw[O]; rfl) (by simp) (by simp[U]) (oW (w.at w.drawn))
 |ended hd J mi S q=>
  rw[O]at Y;obtain⟨q',g',rfl,hs,hq⟩:=lv q Y.1;have W:=cb (P:=P) (sl:=sl) (i:=i) hg (by rw[ae]; exact hs w);have e0:cZ i g.frame.fn g.frame.place #[]=#[]:=by rw[ci]; simp
  rw[e0]at W;refine⟨_,w,_,cJ ρ i (.ended hd J mi S q'),W,?_,rm U (by rw[O]; exact .ended),rp (by rw[O]; cases hd<;>rfl),by simp,zero g' w _ (by rw[O]; rfl),λ_ _ _ _ _ x=>(by rw[cH]at x; cases x),λj hj=>cI _ _ hj⟩;rw[br];exact h.Q7 (gs':=(gs.map (woken P g g' w)).setIfInBounds i g') w.drawn hi U (ρ':=.ended hd J mi S q') (g':=g') ⟨hq,Y.2⟩ (by rw[O]; rfl) (by rw[O]; rfl) (by rw[O]; rfl) (by rw[O]; rfl) (by rw[O]; cases hd<;>rfl) (by simp) (by simp[U]) (oW (w.at w.drawn))
 |jc J mi S n v=>
  rw[O]at Y;obtain⟨_,_,g0,z,rfl,_⟩:=Y;cases ad
 |start J mi S k=>
  rw[O]at Y;obtain⟨h1,h2,h3,h4,h5,h6,h7⟩:=Y;have aa:(ρ i).live=some mi:=by rw[O]; rfl
  have step:∀g' d es(r:ey),bw P false g w=.go g' (w.at d) es->(∀e∈es,oy mi e)->At P (w.at d) (t++cZ i g.frame.fn g.frame.place es) i g' r->r.live=some mi->r.rE=some J->r.chan=some J->r.sum=some (J,0)->iD P r (.start J mi S k)->
    ∃gs' w' ops ρ',bM P (bX gs w sl) i=(.next (bX gs' w' sl),ops)/\Co P fx w0 Pd ρ' m wl gs' w' (t++ops)/\Ij (iD P) gs.size ρ' ρ/\(∀j,(ρ' j).sum=(ρ j).sum)/\gs'.size=gs.size/\((gs'[0]?=some a/\∀j,(ρ' j).chan=(ρ j).chan)\/gs'[0]?=some (a.again w'))/\(∀J mi S n v,ρ' i=.jc J mi S n v->bY a J.c false=[])/\(∀j,j≠i->ρ' j=ρ j):=by
   intro g' d es r hs he hr e1 e2 e3 e4 aj;have W:=cb (P:=P) (sl:=sl) (i:=i) hg (by rw[ae]; exact hs);exact⟨_,_,_,cJ ρ i r,W,h.step (gs':=(gs.map (woken P g g' (w.at d))).setIfInBounds i g') hi U aa (Ren.Le.refl mi) (fv.at mi w d) he (h6.at d) hr e1 (by rw[O]; exact e2) (by rw[O]; exact e3) (by rw[O]; exact e4) (by simp) (by simp[U]) (oW _),rm U (by rw[O]; exact aj),rp (by rw[O]; exact e4),by simp,zero g' _ r (by rw[O]; exact e3),λ_ _ _ _ _ x=>(by rw[cH]at x; subst x; cases aj),λj hj=>cI _ _ hj⟩
  cases k with
  |zero=>
   obtain⟨fr,cs,d,es,hs,he,ab⟩:=h7.2 w h6;exact step _ d es (.act J mi S 0) hs he ⟨h1,h2,h3,h4,⟨fr,cs,rfl,ab⟩,[],h5,rfl⟩ rfl rfl rfl rfl .go
  |succ k=>
   obtain⟨g',d,es,hs,he,af⟩:=h7.2 w h6;exact step g' d es (.start J mi S k) hs he ⟨h1,h2,h3,h4,h5,h6.at d,af⟩ rfl rfl rfl rfl .start
 |act J mi S n=>
  rw[O]at Y;obtain⟨h1,⟨s,r,hc⟩,h3⟩:=Y;have aa:(ρ i).live=some mi:=by rw[O]; rfl
  obtain⟨ax,ao⟩:=h.wr (ey.ns aa);by_cases af:J.Stop S
  .obtain⟨hn,fr,ps,a',ty,cs,rfl,hm,hd,hq,ar⟩:=h3.stands h1 af;obtain⟨fr',cs',e,ab⟩:=h3.rD;have hs:=closing (P:=P) (ps:=ps) (w:=w) hm hd hq hc;have W:=cb (P:=P) (sl:=sl) (i:=i) hg (by rw[ae]; exact hs)
   have au:∀o,woken P (G fr [ps]) (G {fr with defers:=[]} [ps]) {w with heap:=w.heap.setIfInBounds J.c (.chan 0 #[] true s r false)} o=o.again {w with heap:=w.heap.setIfInBounds J.c (.chan 0 #[] true s r false)}:=by
    intro o;unfold woken;rw[if_pos];simp[mayWake,G,hm]
   refine⟨_,_,_,cJ ρ i (.ended false J mi S 2),W,?_,rm U (by rw[O]; exact .close),rp (by rw[O,hn]; rfl),by simp,.inr ?_,λ_ _ _ _ _ x=>(by rw[cH]at x; cases x),λj hj=>cI _ _ hj⟩
   .exact h.close (gs':=(gs.map (woken P (G fr [ps]) (G {fr with defers:=[]} [ps]) {w with heap:=w.heap.setIfInBounds J.c (.chan 0 #[] true s r false)})).setIfInBounds i (G {fr with defers:=[]} [ps])) hi U O af hn ab.world hc ar rfl (by simp) (by simp[U]) (oW _)
   .rw[IZ hi h0,au]
  .have ap:=h3.BD h1 af;generalize ai:bw P false g w=sg at ap
   cases ap with
   |@go S' dx g₁ w₁ es al am ak hk he=>
    have W:=cb (P:=P) (sl:=sl) (i:=i) hg (by rw[ae]; exact ai);obtain⟨fr',cs',e,ab⟩:=ak.rD;exact⟨_,_,_,cJ ρ i (.act J dx S' n),W,h.step (gs':=(gs.map (woken P g g₁ w₁)).setIfInBounds i g₁) hi U aa am hk he ab.world ⟨h1,⟨s,r,hk.chan ao hc⟩,ak⟩ rfl (by rw[O]; rfl) (by rw[O]; rfl) (by rw[O]; rfl) (by simp) (by simp[U]) (oW _),rm U (by rw[O]; exact .act al),rp (by rw[O]; rfl),by simp,zero g₁ _ _ (by rw[O]; rfl),λ_ _ _ _ _ x=>(by rw[cH]at x; cases x),λj hj=>cI _ _ hj⟩
   |@send S' dx g₁ w₁ es v' z' al am ag hk he=>
    have ah:=hk.chan ao hc
    have hp:bC (gs.setIfInBounds i ph) J.c false=[]:=by
     refine c2 λj x hx=>?_;rcases ce gs i j x hx with⟨_,rfl⟩|⟨ay,hx⟩
     .exact cg _ _
     .by_cases hj:j=0
      .subst hj;rw[h0]at hx;cases hx;exact an J mi S n _ _ _ _ O ai
      .exact(h.at_ j x (by omega) hx).offers J.c
    have W:=c4 (P:=P) (sl:=sl) (i:=i) hg (by rw[ae]; exact ai) (by
     intro cc aq;simp only[cW,cR,cQ,or_false]at aq;subst aq
     exact ways_send_none ah (by simp) hp)
    obtain⟨v0,fr',cs',e,ab⟩:=ag.rD;obtain⟨f0,az,_,_,_,_,_,_,_,av,_⟩:=ab.rD;refine⟨_,_,_,cJ ρ i (.jc J dx S' n v'),W,h.step (gs':=gs.setIfInBounds i _) hi U aa am hk he av ⟨h1,⟨s,r,ah⟩,g₁,z',rfl,ag⟩ rfl (by rw[O]; rfl) (by rw[O]; rfl) (by rw[O]; rfl) (by simp) (by simp[U]) (yx _),rm U (by rw[O]; exact .jc al),rp (by rw[O]; rfl),by simp,.inl ⟨?_,ac _ (by rw[O]; rfl)⟩,λ_ _ _ _ _ x=>(by rw[cH]at x; cases x; exact an J mi S n _ _ _ _ O ai),λj hj=>cI _ _ hj⟩;rw[bk (by omega)];exact h0
end
end
section
open Go.Conc
open Go.ConcN (upd upd_same upd_ne)
variable {a:Goroutine} {J:mK} {S:LS} {mi:Ren}
structure j8(P:Program) where
 Up:Machine->b5->Prop
 Fin:Machine->Stepped×Array MemOp->b5->Prop
 back:∀M t,Fin M (bQ P M) t->Up M t
 next:∀M M' ops t,Up M' (t++ops)->Fin M (.next M',ops) t
theorem qW{u:List MemOp}(O:∀op∈u,op.act.touch?=none):∀{t:b5}{said:Bool},¬bS said t->¬bS said (t++u.toArray):=by
 induction u with
 |nil=>simpa using h
 |cons x u U=>
  intro t said h;have:t++(x::u).toArray=(t++#[x])++u.toArray:=by simp
  rw[this];refine U (λop y=>O op (by simp[y])) ?_;refine cj (g:=x.g) h (λop y=>by simp at y; rw[y]) λi a _ op y b hb _=>?_;simp at y;subst y;rw[O op (by simp)]at hb;cases hb
section
variable {P:Program} {fx:Nat->Prop} {w0:World} {Pd:Nat->Prop} {ρ:Nat->ey} {m:Ren} {wl:World} {gs gs':Array Goroutine} {w w₁:World} {t:b5} {sl:Option (Nat×Nat)}
theorem Co.at(h:Co P fx w0 Pd ρ m wl gs w t)(d:Nat):Co P fx w0 Pd ρ m wl gs (w.at d) t:=by
 refine⟨h.main.at d,λi g hi y=>?_,h.out,h.d0,h.dd,h.cc,h.s0,h.ss,h.L0,h.low,h.hears,h.jX,h.clean,h.fix,h.f0,h.ff,h.cx,h.sz,h.os,h.kn,h.pd.same (λ_=>rfl) rfl,h.len⟩;have:=(h.at_ i g hi y).rely (w₁:=w.at d) (u:=#[]) (λ_ _ _ _ _=>rfl) (λ_ _=>rfl) (cA _) rfl (by simp);simpa using this
theorem Co.awake(h:Co P fx w0 Pd ρ m wl gs w t)(O:gs[0]?=some a)(U:a.status=.running\/a.status=.blocked\/a.status=.finished):∀g∈gs,c6 g:=by
 intro g W;obtain⟨i,hi,rfl⟩:=bp.1 W;rcases cC i with rfl|y
 .have:=by simpa[bm hi]using O
  rw[this]; exact awake_of U
 .exact awake_of (h.at_ i _ y (bm hi)).status
theorem turn{Z:j8 P}{K:Nat->Option (mK×Nat)}{N:Nat}(y:a.status=.running)
  (hm:∀ρ gs w sl O d t,Co P fx w0 Pd ρ m wl gs (w.at d) t->(∀j,(ρ j).sum=K j)->gs[0]?=some a->gs.size=N->Z.Fin (bX gs w sl) (bM P (bX gs (w.at d) O) 0) t) :
  ∀ρ gs w sl t,Co P fx w0 Pd ρ m wl gs w t->(∀j,(ρ j).sum=K j)->gs[0]?=some a->gs.size=N->Z.Up (bX gs w sl) t:=by
 intro ρ gs w sl t h hK W Y;have U:=h.acc;rw[Y]at U;revert hK gs w sl t
 induction U with
 |intro ρ _ ih=>
  intro gs w sl t h hK W Y;obtain⟨i,g,d,O,hi,hg,ac⟩:=cp (P:=P) (w:=w) (sl:=sl) (h.awake W (.inl y)) ⟨0,a,W,y⟩;refine Z.back _ _ ?_;rw[ac];rcases cC i with rfl|aa
  .exact hm ρ gs w sl O d t (h.at d) hK W Y
  .obtain⟨gs',w',ops,ρ',hr,ad,ae,ab,af,hz,_,_⟩:=(h.at d).other (sl:=O) aa hi hg W λJ mi S n _ _ _ _ _ _=>bT (by rw[y]; simp) ..;rw[hr];refine Z.next _ _ _ _ (ih ρ' (Y▸ae) gs' w' O _ ad (λj=>(ab j).trans (hK j)) ?_ (af.trans Y));rcases hz with⟨x,_⟩|x
   .exact x
   .rw[x,cw _ (.inl y)]
theorem Co.Sa{i:Nat}{g₁:Goroutine}{n s r s' r':Nat}{v z:Value}{u:List MemOp}(h:Co P fx w0 Pd ρ m wl gs w t)(hi:0<i)(ad:ρ i=.jc J mi S n v)(al:gs[i]?=some (parked g₁ #[cd J.c v z] .send))(hc:w.heap[J.c]?=some (.chan 0 #[] false s r false))
  (ah:w₁={w with heap:=w.heap.setIfInBounds J.c (.chan 0 #[] false s' r' false)}) (hu:∀op∈u,op.act.touch?=none) (au:∀op∈u,op.act≠.mark .disable/\op.act≠.mark .enable)
  (av:gs'.size=gs.size) (am:gs'[i]?=some (bV g₁ gA)) (aw:∀j,0<j->j≠i->gs'[j]?=gs[j]?) :
  ∃ab,Co P fx w0 Pd (cJ ρ i (.act J ab S (n+1))) m wl gs' w₁ (t++u.toArray):=by
 subst ah;have a5:i<gs.size:=(bn.1 al).1;have an:J.c<w.heap.size:=jE hc;have W:w.heap.size<=(w.heap.setIfInBounds J.c (.chan 0 #[] false s' r' false)).size:=by simp
 have ai:∃a b x s y t,w.heap[J.c]?=some (.chan a b x s y t):=⟨_,_,_,_,_,_,hc⟩;have ao:=h.at_ i _ hi al;rw[ad]at ao;obtain⟨ax,_,g0,z0,eg,ap⟩:=ao
 have e0:g0=g₁\/bV g0 gA=bV g₁ gA:=by
  obtain⟨v0,fr',cs',e',_⟩:=ap.rD;subst e';refine .inr ?_;have:=congrArg (λg:Goroutine=>bV g gA) eg;exact this.symm
 have af:bV g0 gA=bV g₁ gA:=e0.elim (λe=>by rw[e]) id;obtain⟨ab,a6,hb,hl,ac⟩:=ap.done;have aj:(ρ i).rE=some J:=by rw[ad]; rfl
 have aq:(ρ i).mC=some mi:=by rw[ad]; rfl
 refine⟨ab,?_⟩
 have kj:∀j,(cJ ρ i (.act J ab S (n+1)) j).rE=(ρ j).rE:=λj=>by
  by_cases e:j=i
  .subst e; rw[cH,ad]; rfl
  .rw[cI _ _ e]
 have kc:∀j,(cJ ρ i (.act J ab S (n+1)) j).chan=(ρ j).chan:=λj=>by
  by_cases e:j=i
  .subst e; rw[cH,ad]; rfl
  .rw[cI _ _ e]
 have kr:∀j m',(cJ ρ i (.act J ab S (n+1)) j).mC=some m'->∃Y,(ρ j).mC=some Y/\m'.blk=Y.blk/\m'.loose=Y.loose:=λj m' hx=>by
  by_cases e:j=i
  .subst e; rw[cH]at hx; cases hx; exact⟨mi,aq,hb,hl⟩
  .rw[cI _ _ e]at hx; exact⟨m',hx,rfl,rfl⟩
 have kl:∀j m',(cJ ρ i (.act J ab S (n+1)) j).live=some m'->∃Y,(ρ j).live=some Y/\m'.blk=Y.blk/\m'.loose=Y.loose:=λj m' hx=>by
  by_cases e:j=i
  .subst e; rw[cH]at hx; cases hx; exact⟨mi,by rw[ad]; rfl,hb,hl⟩
  .rw[cI _ _ e]at hx; exact⟨m',hx,rfl,rfl⟩
 have U:∀op∈u.toArray,op∈u:=λop O=>by simpa using O
 refine⟨h.main.rely (km h.main ai) W rfl,λj x ar hx=>?_,λj hj=>?_,λj m' aa=>?_,λj k m1 m2 ak h1 h2=>?_,λj k J1 J2 ak h1 h2=>h.cc j k J1 J2 ak (by rw[<-kj]; exact h1) (by rw[<-kj]; exact h2),h.s0.mute λop O=>hu op (U op O),λj m' aa=>?_,λj J' ae p a ha hb=>?_,λp a b ha hb=>?_,h.hears.append λop O=>au op (U op O),?_,λsaid=>qW hu (h.clean said),λb hb=>?_,h.f0,λj m' aa r b hr hb=>?_,λj J' ae=>h.cx j J' (by rw[<-kj]; exact ae),cB h.sz W,h.os,h.kn.app (λj m' r b aa hx=>?_) (λop O a b ha _ _=>by rw[hu op (U op O)]at ha; cases ha),h.pd.app kj (λc ay _=>bk ((h.pd c ay).2.2.1 i J aj)) (λop O a c ha _ _=>by rw[hu op (U op O)]at ha; cases ha),h.len.same kj⟩
 .by_cases e:j=i
  .subst e;rw[am]at hx;cases hx;rw[cH,<-af];obtain⟨fr,cs,e,ag⟩:=ac.rD;exact⟨ax,⟨s',r',by simp[an]⟩,ac.mC,ac.nj,⟨fr,cs,e,ag.rely (km ag.world ai) W rfl⟩,ac.gD⟩
  .rw[cI _ _ e];rw[aw j ar e]at hx;refine(h.at_ j x ar hx).rely (λm' aa=>?_) (λJ' ae=>?_) W rfl λop O _=>hu op (U op O)
   .obtain⟨wl',az⟩:=h.wr aa;exact km az ai
   .exact bk (h.cc i j J J' (gd e) aj ae)
 .rw[cI _ _ (by rintro rfl; rcases hj with x|x<;>omega)];exact h.out j (by rw[<-av]; exact hj)
 .obtain⟨Y,h1,h2,h3⟩:=kr j m' aa;have:=h.d0 j Y h1;unfold nD at this⊢;rw[h2,h3];exact this
 .obtain⟨a0,a1,a2,a3⟩:=kr j m1 h1;obtain⟨a4,b1,b2,b3⟩:=kr k m2 h2;have:=h.dd j k a0 a4 ak a1 b1;unfold nD at this⊢;rw[a2,a3,b2,b3];exact this
 .obtain⟨Y,h1,h2,h3⟩:=kl j m' aa;have:=(h.ss j Y h1).mute (u:=u.toArray) λop O=>hu op (U op O);unfold n4 at this⊢;rw[h2,h3];exact this
 .rw[kc]at ae;rcases dW ha with⟨_,h1⟩|⟨op,h1,_,h3⟩
  .exact h.L0 j J' ae p a h1 hb
  .rw[hu op (U op h1)]at h3; cases h3
 .rcases dW ha with⟨_,h1⟩|⟨op,h1,_,h3⟩
  .exact c9 (h.low p a b h1 hb) W
  .rw[hu op (U op h1)]at h3; cases h3
 .refine(h.jX.mono λj hj=>?_).app λop O=>.inl (hu op (U op O));by_cases e:j=i
  .subst e; rw[cH]; simp[ey.sum]
  .rw[cI _ _ e]; exact hj
 .obtain⟨h1,h2⟩:=h.fix b hb;refine⟨c9 h1 W,?_⟩;rw[<-h2];exact bk (by rintro rfl; exact h.cx i J aj hb)
 .obtain⟨Y,h1,h2,h3⟩:=kr j m' aa;rw[h2]at hr;rw[h3];exact h.ff j Y h1 r b hr hb
 .by_cases e:j=i
  .subst e;rw[aq]at aa;cases aa;exact⟨j,ab,r,by rw[cH]; rfl,by rw[hb]; exact hx⟩
  .exact⟨j,m',r,by rw[cI _ _ e]; exact aa,hx⟩
theorem Co.hear{i:Nat}{q:Nat}{fn:bI}{pos:String}(h:Co P fx w0 Pd ρ m wl gs w t)(hi:0<i)(U:ρ i=.ended false J mi S q)(ae:gs'.size=gs.size)(af:∀j,0<j->gs'[j]?=gs[j]?) :
  Co P fx w0 Pd (cJ ρ i (.ended true J mi S q)) m wl gs' w (t++#[{g:=0,fn,pos,act:=.recvClosed J.c}]):=by
 have hu:∀op∈(#[{g:=0,fn,pos,act:=.recvClosed J.c}]:Array MemOp),op.act.touch?=none:=by
  intro op O;simp at O;subst O;rfl
 have key:∀{α:Type}(f:ey->α),f (.ended true J mi S q)=f (ρ i)->∀j,f (cJ ρ i (.ended true J mi S q) j)=f (ρ j):=λf hf j=>by
  by_cases e:j=i
  .subst e; rw[cH]; exact hf
  .rw[cI _ _ e]
 have kr:=key ey.mC (by rw[U]; rfl);have kj:=key ey.rE (by rw[U]; rfl);have kl:=key ey.live (by rw[U]; rfl);have kc:=key ey.chan (by rw[U]; rfl);obtain⟨gi,_,ac,ag⟩:=h.get (i:=i) (by rw[U]; simp);have ah:i<gs.size:=(bn.1 ac).1;rw[U]at ag
 have hh:kI (t++#[{g:=0,fn,pos,act:=.recvClosed J.c}]):=h.hears.append λop O=>by
  simp at O;subst O;simp
 have hrel:=λj x hj hx=>(h.at_ j x hj hx).rely (λ_ _ _ _ _=>rfl) (λ_ _=>rfl) (cA _) rfl λop O _=>hu op O
 refine⟨h.main,λj x ad hx=>?_,λj hj=>?_,λj m' W=>h.d0 j m' (by rw[<-kr]; exact W),λj k m1 m2 ab Y h2=>h.dd j k m1 m2 ab (by rw[<-kr]; exact Y) (by rw[<-kr]; exact h2),λj k J1 J2 ab Y h2=>h.cc j k J1 J2 ab (by rw[<-kj]; exact Y) (by rw[<-kj]; exact h2),h.s0.mute hu,λj m' W=>(h.ss j m' (by rw[<-kl]; exact W)).mute hu,λj J' aa p a ha hb=>?_,λp a b ha hb=>?_,hh,?_,λsaid=>by
  have:=qW (u:=[{g:=0,fn,pos,act:=.recvClosed _}]) (by simpa using hu) (h.clean said)
  simpa using this,h.fix,h.f0,λj m' W=>h.ff j m' (by rw[<-kr]; exact W),λj J' aa=>h.cx j J' (by rw[<-kj]; exact aa),h.sz,h.os,h.kn.app (λj m' r b W hx=>⟨j,m',r,by rw[kr]; exact W,hx⟩) (λop O a b ha _ _=>by rw[hu op O]at ha; cases ha),h.pd.app kj (λ_ _ _=>rfl) (λop O a c ha _ _=>by rw[hu op O]at ha; cases ha),h.len.same kj⟩
 .rw[af j ad]at hx;have:=hrel j x ad hx;by_cases e:j=i
  .subst e;rw[cH];rw[U]at this;exact this
  .rw[cI _ _ e]; exact this
 .rw[cI _ _ (by rcases hj with x|x<;>omega)];exact h.out j (by rw[<-ae]; exact hj)
 .rw[kc]at aa;rcases dW ha with⟨_,Y⟩|⟨op,Y,_,h3⟩
  .exact h.L0 j J' aa p a Y hb
  .rw[hu op Y]at h3; cases h3
 .rcases dW ha with⟨_,Y⟩|⟨op,Y,_,h3⟩
  .exact h.low p a b Y hb
  .rw[hu op Y]at h3; cases h3
 .obtain⟨_,_,_,_,_,pc,y,g1,g2,g3,g4⟩:=hrel i gi (by omega) ac |> λx=>by rw[U]at x; exact x
  have hj:=(h.jX.app (u:=#[{g:=0,fn,pos,act:=.recvClosed _}]) λop O=>.inl (hu op O)).join hh (j:=i) (r:={g:=0,fn,pos,act:=.recvClosed _}) (pr:=t.size) g1 g2 g3 (by simp) rfl rfl g4;refine hj.mono λj hx=>?_;rw[cI _ _ hx.2];exact hx.1
end
end
section
open Go.Conc
open Go.ConcN (upd upd_same upd_ne)
variable {J:mK} {c n:Nat} {r:ey}
structure vi(P:Program)(a:Goroutine)(cases:Array CommCase)(chans:Nat->Option Nat)(K:Nat->Option (mK×Nat)):Prop where
 run:a.status=.running
 step:∀w,bw P true a w=.comm a cases true .select w #[]
 SU:∀w,bw P true {parked a cases .select with status:=.running} w=.comm a cases true .select w #[]
 cs:∀(k:Nat)cc,cases[k]?=some cc->∃z,cc=⟨.chan (chans k),none,z⟩
 Tw:∀k k' c,k<cases.size->k'<cases.size->chans k=some c->chans k'=some c->k=k'
 own:∀k c,k<cases.size->chans k=some c->∃i J n,K i=some (J,n)/\J.c=c
 some_:∃k c,k<cases.size/\chans k=some c
 flat:∀i J n,K i=some (J,n)->∀v∈J.L,∀(m:Ren)v',VR m v v'->v'=v
section
variable {P:Program} {fx:Nat->Prop} {w0:World} {Pd:Nat->Prop} {ρ:Nat->ey} {m:Ren} {wl:World} {gs gs':Array Goroutine} {w w₁:World} {t:b5} {sl:Option (Nat×Nat)} {a:Goroutine} {cases:Array CommCase} {chans:Nat->Option Nat} {K:Nat->Option (mK×Nat)}
theorem vi.get(h:vi P a cases chans K){k:Nat}(y:k<cases.size):∃z,cases[k]?=some ⟨.chan (chans k),none,z⟩:=by
 obtain⟨z,O⟩:=h.cs k _ (bm y);exact⟨z,by rw[bm y,O]⟩
theorem vi.offers(h:vi P a cases chans K){k:Nat}(hk:k<cases.size)(hc:chans k=some c):bY (parked a cases .select) c false=[k]:=by
 obtain⟨z,hz⟩:=h.get hk
 have O:∀m:Nat,cases.zipIdx.toList[m]?=(cases[m]?).map λx=>(x,m):=by
  simp
 have:=filter_map_one (id:CommCase×Nat->CommCase×Nat) (λ(W,_)=>W.send.isSome==false&&(match W.chan with|.chan (some r')=>r'==c|_=>false)) _ k _ (by rw[O,hz]; rfl) (by simp[hc]) (λm x hm U=>by
  rw[O]at U
  cases e:cases[m]? with
  |none=>rw[e]at U; cases U
  |some y=>
   rw[e]at U;simp only[gt,db]at U;subst U;obtain⟨z',rfl⟩:=h.cs m y e;have Y:=(bn.1 e).1
   cases aa:chans m with
   |none=>simp
   |some W=>
    have:W≠c:=by
     rintro rfl;exact hm (h.Tw m k W Y hk aa hc)
    simp[this])
 simp only[List.map_id]at this;exact congrArg _ this
theorem vi.DV(h:vi P a cases chans K)(W:∀k,k<cases.size->chans k≠some c):bY (parked a cases .select) c false=[]:=by
 have:(cases.zipIdx.toList.filter λ(y,_)=>y.send.isSome==false&&(match y.chan with|.chan (some r')=>r'==c|_=>false))=[]:=by
  rw[List.filter_eq_nil_iff];rintro⟨cc,k⟩ hm;have e:=by simpa using Array.mem_zipIdx_iff_getElem?.1 (Array.mem_toList_iff.1 hm)
  obtain⟨Y,rfl⟩:=h.cs k cc e;have O:=(bn.1 e).1
  cases U:chans k with
  |none=>simp
  |some y=>
   have:y≠c:=by
    rintro rfl;exact W k O U
   simp[this]
 exact congrArg _ this
theorem At.IL{i:Nat}{g:Goroutine}(h:At P w t i g r)(c:Nat):bY g c true=[]\/∃J m S n v,r=.jc J m S n v/\J.c=c/\bY g c true=[0]:=by
 cases r with
 |quit q=>exact .inl (bT (by rcases Lv.status h with x|x<;>rw[x]<;>simp) ..)
 |ended y J m S q=>exact .inl (bT (by rcases h.1.status with x|x<;>rw[x]<;>simp) ..)
 |act J m S n=>
  obtain⟨_,_,h⟩:=h;obtain⟨fr,cs,rfl,_⟩:=h.rD;exact .inl (bT (by simp[G]) ..)
 |jc J m S n v=>
  obtain⟨_,_,g0,z,rfl,_⟩:=h;rw[ck];by_cases e:J.c=c
  .exact .inr ⟨_,_,_,_,_,rfl,e,by rw[if_pos e]⟩
  .exact .inl (by rw[if_neg e])
 |start J m S k=>exact .inl (bT (by rw[h.2.2.2.2.2.2.status]; simp) ..)
theorem ey.wY(h:r.sum=some (J,n)):r.rE=some J:=by
 cases r with
 |quit q=>cases h
 |ended y O m S q=>cases y<;>first|(cases h; rfl)|cases h
 |act=>cases h; rfl
 |jc=>cases h; rfl
 |start=>cases h; rfl
theorem Co.ways(h:Co P fx w0 Pd ρ m wl gs w t){i:Nat}(W:(ρ i).sum=some (J,n))(z:Value) :
  (∃m S v,ρ i=.jc J m S n v/\b7 w (gs.setIfInBounds 0 ph) (bW J.c z)=[.partner i 0]/\fS w J.c false)\/(∃m S q,ρ i=.ended false J m S q/\n=J.L.length/\b7 w (gs.setIfInBounds 0 ph) (bW J.c z)=[.closed]/\fS w J.c true)\/(((∃m S,ρ i=.act J m S n)\/∃m S k,ρ i=.start J m S k)/\b7 w (gs.setIfInBounds 0 ph) (bW J.c z)=[]/\fS w J.c false):=by
 obtain⟨g,hi,hg,U⟩:=h.get (i:=i) λe=>by rw[e]at W; cases W
 have Y:=ey.wY W
 have y:(∀m S n v,ρ i≠.jc J m S n v)->bC (gs.setIfInBounds 0 ph) J.c true=[]:=by
  intro ac;refine c2 λj x hx=>?_;rcases ce gs 0 j x hx with⟨_,rfl⟩|⟨hj,hx⟩
  .exact cg ..
  .rcases(h.at_ j x (by omega) hx).IL _ with e|⟨J',m',S',n',v',e,ec,_⟩
   .exact e
   .by_cases ab:j=i
    .subst ab;rw[e]at Y;cases Y;exact absurd e (ac _ _ _ _)
    .exact absurd ec.symm (h.cc i j J J' (gd ab) Y (by rw[e]; rfl))
 cases O:ρ i with
 |quit q=>rw[O]at W; cases W
 |ended hd J' m' S q=>
  rw[O]at W U
  cases hd with
  |true=>cases W
  |false=>
   cases W;obtain⟨_,_,_,_,⟨s,r,hc⟩,_⟩:=U;refine .inr (.inl ⟨m',S,q,rfl,rfl,?_,s,r,hc⟩);simp[b7,bW,hc,y (by rw[O]; simp)]
 |act J' m' S n'=>
  rw[O]at W U;cases W;obtain⟨_,⟨s,r,hc⟩,_⟩:=U;refine .inr (.inr ⟨.inl ⟨m',S,rfl⟩,?_,s,r,hc⟩);simp[b7,bW,hc,y (by rw[O]; simp)]
 |start J' m' S k=>
  rw[O]at W U;cases W;obtain⟨_,⟨s,r,hc⟩,_⟩:=U;refine .inr (.inr ⟨.inr ⟨m',S,k,rfl⟩,?_,s,r,hc⟩);simp[b7,bW,hc,y (by rw[O]; simp)]
 |jc J' m' S n' v=>
  rw[O]at W;cases W;have aa:=U;rw[O]at aa;obtain⟨_,⟨s,r,hc⟩,g0,z0,rfl,_⟩:=aa;refine .inl ⟨m',S,v,rfl,?_,s,r,hc⟩
  have hp:bC (gs.setIfInBounds 0 ph) J.c true=[(i,0)]:=by
   rw[cz (j:=i) (g:=parked g0 ..) (by rw[bk (by omega)]; exact hg) λj x hj hx=>?_]
   .rw[ck,if_pos rfl]; rfl
   .rcases ce gs 0 j x hx with⟨_,rfl⟩|⟨ad,hx⟩
    .exact cg ..
    .rcases(h.at_ j x (by omega) hx).IL _ with e|⟨J2,m2,S2,n2,v2,e,ec,_⟩
     .exact e
     .exact absurd ec.symm (h.cc i j J J2 (gd hj) Y (by rw[e]; rfl))
  simp[b7,bW,hc,hp]
theorem wv{i k cap s r:Nat}{buf:Array Value}{tm:Bool}{v z:Value}{g rH:Goroutine}{es:Array Event}(hi:gs[i]?=some g)(h:bw P (i==0) g w=.comm rH #[cd c v z] true .send w₁ es)(hc:w₁.heap[c]?=some (.chan cap buf false s r tm))(ab:0<i)(h0:gs[0]?=some (parked a cases .select))(hp:bC (gs.setIfInBounds i ph) c false=[(0,k)])(hk:∃cc,cases[k]?=some cc/\cc.send=none) :
  bM P (bX gs w sl) i=(.next (bX ((gs.setIfInBounds 0 (a.finishComm P cases .select k v true)).setIfInBounds i (bV rH gA)) {w₁ with heap:=w₁.heap.setIfInBounds c (.chan cap buf false (s+1) (r+1) tm)} sl),
   cZ i g.frame.fn g.frame.place es++[({g:=i,fn:=rH.frame.fn,pos:=rH.frame.place,act:=.send c s}:MemOp),{g:=0,fn:=a.frame.fn,pos:=a.frame.place,act:=.recv c r cap},{g:=i,fn:=rH.frame.fn,pos:=rH.frame.place,act:=.sendDone c s},{g:=0,fn:=a.frame.fn,pos:=a.frame.place,act:=.recvDone c r}].toArray):=by
 rw[cu hi h];have O:(0)≠i:=by omega
 have y:=stand_get (i:=i) O h0;have U:=cr P _ y (cs:=cases) (sh:=.select) rfl k v;have W:(gs.setIfInBounds i ph).getD 0 default=parked a cases .select:=by rw[bs,y]; rfl
 obtain⟨cc,Y,aa⟩:=hk;simp[bx,b7,cd,hc,hp,choose,cL,ge,bind,cO,pure,bX,U,W,set_stand2,finishComm_parked,Y,aa,parked];rfl
end
end
section
open Go.Conc
open Go.ConcN (upd upd_same upd_ne)
variable {f f':bI} {c cap r s:Nat} {p p':String}
section
variable {P:Program} {fx:Nat->Prop} {w0:World} {Pd:Nat->Prop} {m:Ren} {wl:World} {a:Goroutine} {cases:Array CommCase} {chans:Nat->Option Nat} {K:Nat->Option (mK×Nat)}
theorem N4{ρ:Nat->ey}{i:Nat}{r:ey}{x:Option (mK×Nat)}(y:∀j,(ρ j).sum=K j)(O:r.sum=x)(j:Nat):(cJ ρ i r j).sum=cJ K i x j:=by
 by_cases e:j=i
 .subst e; rw[cH,cH]; exact O
 .rw[cI _ _ e,cI _ _ e]; exact y j
theorem Bc{i:Nat}:∀op∈([{g:=i,fn:=f,pos:=p,act:=.send c s},{g:=0,fn:=f',pos:=p',act:=.recv c r cap},{g:=i,fn:=f,pos:=p,act:=.sendDone c s},{g:=0,fn:=f',pos:=p',act:=.recvDone c r}]:List MemOp),op.act.touch?=none:=by
 intro op y;simp only[cR,cQ,or_false]at y;rcases y with rfl|rfl|rfl|rfl<;>rfl
theorem zF{i:Nat}:∀op∈([{g:=i,fn:=f,pos:=p,act:=.send c s},{g:=0,fn:=f',pos:=p',act:=.recv c r cap},{g:=i,fn:=f,pos:=p,act:=.sendDone c s},{g:=0,fn:=f',pos:=p',act:=.recvDone c r}]:List MemOp),op.act≠.mark .disable/\op.act≠.mark .enable:=by
 intro op y;simp only[cR,cQ,or_false]at y;rcases y with rfl|rfl|rfl|rfl<;>simp
def NK(ρ:Nat->ey)(cases:Array CommCase)(chans:Nat->Option Nat)(K:Nat->Option (mK×Nat)):Prop:=
 ∀k c,k<cases.size->chans k=some c->∃i J n,K i=some (J,n)/\J.c=c/\((∃m S,ρ i=.act J m S n)\/∃m S k,ρ i=.start J m S k)
theorem select{Z:j8 P}{N:Nat}(hS:vi P a cases chans K)
  (hv:∀(k i:Nat)J n v,k<cases.size->chans k=some J.c->K i=some (J,n)->J.L[n]?=some v->∀ρ gs w sl t,Co P fx w0 Pd ρ m wl gs w t->(∀j,(ρ j).sum=cJ K i (some (J,n+1)) j)->gs[0]?=some (a.finishComm P cases .select k v true)->gs.size=N->Z.Up (bX gs w sl) t)
  (he:∀(k i:Nat)J z,cases[k]?=some (bW J.c z)->chans k=some J.c->K i=some (J,J.L.length)->∀ρ gs w sl t,Co P fx w0 Pd ρ m wl gs w t->(∀j,(ρ j).sum=cJ K i none j)->gs[0]?=some (a.finishComm P cases .select k z false)->gs.size=N->Z.Up (bX gs w sl) t) :
  ∀ρ gs w sl t,Co P fx w0 Pd ρ m wl gs w t->(∀j,(ρ j).sum=K j)->gs[0]?=some a->gs.size=N->Z.Up (bX gs w sl) t:=by
 have key:∀ρ,Acc (Ij (iD P) N) ρ->∀gs w sl t,Co P fx w0 Pd ρ m wl gs w t->(∀j,(ρ j).sum=K j)->gs.size=N->((∃a',gs[0]?=some a'/\a'.status=.running/\∀w,bw P true a' w=.comm a cases true .select w #[])\/(gs[0]?=some (parked a cases .select)/\NK ρ cases chans K))->Z.Up (bX gs w sl) t:=by
  intro ρ aL
  induction aL with
  |intro ρ _ ih=>
   have hB:∀gs w sl t,Co P fx w0 Pd ρ m wl gs w t->(∀j,(ρ j).sum=K j)->gs.size=N->gs[0]?=some (parked a cases .select)->NK ρ cases chans K->Z.Up (bX gs w sl) t:=by
    intro gs w sl t h hK hN h0 hW
    have au:∃(i:Nat)(g:Goroutine),gs[i]?=some g/\g.status=.running:=by
     obtain⟨k,c,U,hc⟩:=hS.some_;obtain⟨i,J,n,O,_,hr⟩:=hW k c U hc;obtain⟨g,hi,hg,ac⟩:=h.get (i:=i) λe=>by rcases hr with⟨_,_,x⟩|⟨_,_,_,x⟩<;>rw[e]at x<;>cases x
     refine⟨i,g,hg,?_⟩;rcases hr with⟨_,_,x⟩|⟨_,_,_,x⟩
     .rw[x]at ac;obtain⟨_,_,ac⟩:=ac;obtain⟨fr,cs,rfl,_⟩:=ac.rD;rfl
     .rw[x]at ac;exact ac.2.2.2.2.2.2.status
    obtain⟨i,g,d,ad,hi,hg,ax⟩:=cp (P:=P) (w:=w) (sl:=sl) (h.awake h0 (.inr (.inl rfl))) au;refine Z.back _ _ ?_;rw[ax]
    have aa:0<i:=by
     rcases cC i with rfl|aa
     .rw[h0]at hi;cases hi;cases hg
     .exact aa
    have aU:(i==0)=false:=by simp; omega
    have ak:i<gs.size:=(bn.1 hi).1;have y:=h.at d;by_cases ay:∃J mi S n g₁ cs w₁ es,ρ i=.act J mi S n/\bw P false g (w.at d)=.comm g₁ cs true .send w₁ es/\bY (parked a cases .select) J.c false≠[]
    .obtain⟨J,mi,S,n,g₁,cs,w₁,es,ab,an,aV⟩:=ay;have ac:=y.at_ i g aa hi;rw[ab]at ac;obtain⟨av,⟨s,r,hc⟩,a7⟩:=ac
     have aM:¬J.Stop S:=by
      intro aA;obtain⟨hn,fr,ps,a',ty,cs',rfl,hm,hd,hq,bg⟩:=a7.stands av aA;rw[closing (P:=P) (ps:=ps) hm hd hq hc]at an;cases an
     have aN:=a7.BD av aM;rw[an]at aN
     cases aN with
     |@send S' dx _ _ _ v' z' bh aW ae U aX=>
      have az:(ρ i).live=some mi:=by rw[ab]; rfl
      obtain⟨bi,aY⟩:=y.wr (ey.ns az);have ao:=U.chan aY hc
      obtain⟨k,aB,aO⟩:∃k,k<cases.size/\chans k=some J.c:=by
       apply en;intro ap;exact aV (hS.DV λk U hc=>ap ⟨k,U,hc⟩)
      obtain⟨zk,af⟩:=hS.get aB
      have hp:bC (gs.setIfInBounds i ph) J.c false=[(0,k)]:=by
       rw[cz (j:=0) (g:=parked a cases .select) (by rw[bk (by omega)]; exact h0) λj x hj hx=>?_]
       .rw[hS.offers aB aO]; rfl
       .rcases ce gs i j x hx with⟨_,rfl⟩|⟨_,hx⟩
        .exact cg _ _
        .exact(y.at_ j x (by omega) hx).offers J.c
      have aq:=wv (P:=P) (sl:=ad) hi (by rw[aU]; exact an) ao aa h0 hp ⟨_,af,rfl⟩;rw[aq];refine Z.next _ _ _ _ ?_;obtain⟨v0,fr',cs',e,aP⟩:=ae.rD;obtain⟨f0,bj,_,_,_,_,_,_,_,aZ,_⟩:=aP.rD
      have h1:Co P fx w0 Pd (cJ ρ i (.jc J dx S' n v')) m wl (gs.setIfInBounds i (parked g₁ #[cd J.c v' z'] .send)) w₁ (t++cZ i g.frame.fn g.frame.place es):=
       y.step (gs':=gs.setIfInBounds i (parked g₁ #[cd J.c v' z'] .send)) aa ak az aW U aX aZ ⟨av,⟨s,r,ao⟩,g₁,z',rfl,ae⟩ rfl (by rw[ab]; rfl) (by rw[ab]; rfl) (by rw[ab]; rfl) (by simp) (by simp[ak]) (yx _)
      obtain⟨ba,h2⟩:=h1.Sa (gs':=(gs.setIfInBounds 0 (a.finishComm P cases .select k v' true)).setIfInBounds i (bV g₁ gA)) (g₁:=g₁) (z:=z') (u:=[({g:=i,fn:=g₁.frame.fn,pos:=g₁.frame.place,act:=.send J.c s}:MemOp),{g:=0,fn:=a.frame.fn,pos:=a.frame.place,act:=.recv J.c r 0},{g:=i,fn:=g₁.frame.fn,pos:=g₁.frame.place,act:=.sendDone J.c s},{g:=0,fn:=a.frame.fn,pos:=a.frame.place,act:=.recvDone J.c r}]) aa (cH _ _ _) (by simp[ak]) ao (s':=s+1) (r':=r+1) rfl Bc zF (by simp) (by simp[ak]) (λj hj a6=>by
       rw[bk (gd a6),bk (by omega),bk (gd a6)])
      obtain⟨v1,aQ,aC⟩:=ae.value av;have O:K i=some (J,n):=by rw[<-hK i,ab]; rfl
      have ev:v'=v1:=hS.flat i J n O v1 (cV aQ) _ _ aC;subst ev;rw[<-Array.append_assoc];refine hv k i J n v' aB aO O aQ _ _ _ ad _ h2 (λj=>?_) (by rw[bk (by omega),bq (by omega)]) (by simp[hN]);by_cases ej:j=i
      .subst ej; rw[cH,cH]; rfl
      .rw[cI _ _ ej,cI _ _ ej,cI _ _ ej]; exact hK j
    .obtain⟨gs',w',ops,ρ',hr,ah,aD,ai,aE,hz,bc,aF⟩:=y.other (sl:=ad) aa hi hg h0 λJ mi S n g₁ cs w₁ es h1 h2=>en λh3=>ay ⟨J,mi,S,n,g₁,cs,w₁,es,h1,h2,h3⟩;rw[hr];refine Z.next _ _ _ _ (ih ρ' (hN▸aD) gs' w' ad (t++ops) ah (λj=>(ai j).trans (hK j)) (aE.trans hN) ?_)
     have a8:(∀k c,k<cases.size->chans k=some c->¬fS w' c true)->NK ρ' cases chans K:=by
      intro aj k c U hc;obtain⟨W,J,n,O,Y,aG⟩:=hW k c U hc;refine⟨W,J,n,O,Y,?_⟩;rcases ah.ways (i:=W) (J:=J) (n:=n) ((ai W).trans ((hK W).trans O)) gA with⟨m1,S1,v1,e,_⟩|⟨m1,S1,q1,e,_,_,jv⟩|⟨e,_⟩
      .by_cases ei:W=i
       .subst ei;have:=bc J m1 S1 n v1 e;rw[Y,hS.offers U hc]at this;cases this
       .rw[aF W ei]at e;rcases aG with⟨_,_,x⟩|⟨_,_,_,x⟩<;>rw[e]at x<;>cases x
      .exact absurd (Y▸jv) (aj k c U hc)
      .exact e
     have a0:(∀j,(ρ' j).chan=(ρ j).chan)->∀k c,k<cases.size->chans k=some c->¬fS w' c true:=by
      intro aw k c U hc jv;obtain⟨W,J,n,O,Y,aG⟩:=hW k c U hc
      have aR:(ρ' W).chan=some J:=by
       rw[aw];rcases aG with⟨_,_,x⟩|⟨_,_,_,x⟩<;>rw[x]<;>rfl
      obtain⟨s1,r1,jv⟩:=jv;rcases ah.ways (i:=W) (J:=J) (n:=n) ((ai W).trans ((hK W).trans O)) gA with⟨m1,S1,v1,e,_,s2,r2,hx⟩|⟨m1,S1,q1,e,_,_,_⟩|⟨e,_,s2,r2,hx⟩
      .rw[Y,jv]at hx; cases hx
      .rw[e]at aR; cases aR
      .rw[Y,jv]at hx; cases hx
     rcases hz with⟨hx,aw⟩|hx
     .exact .inr ⟨hx,a8 (a0 aw)⟩
     .by_cases jv:∃k c,k<cases.size/\chans k=some c/\fS w' c true
      .obtain⟨k,c,U,hc,s1,r1,jv⟩:=jv;refine .inl ⟨{parked a cases .select with status:=.running},?_,rfl,hS.SU⟩;rw[hx];obtain⟨zk,af⟩:=hS.get U;rw[hc]at af
       have a3:(cases.any λc:CommCase=>match c.chan with
         |.chan (some r)=>(w'.heap[r]? matches some (.chan _ _ true ..))
         |_=>false)=true:=by
        rw[Array.any_eq_true];refine⟨k,U,?_⟩
        have:cases[k]=⟨.chan (some c),none,zk⟩:=by
         rw[bm U]at af;exact dc af
        simp[this,jv]
       unfold fm;simp only[parked];exact congrArg some (if_pos a3)
      .have aj:∀k c,k<cases.size->chans k=some c->¬fS w' c true:=λk c U hc hx=>jv ⟨k,c,U,hc,hx⟩;refine .inr ⟨?_,a8 aj⟩;rw[hx]
       have a3:(cases.any λc:CommCase=>match c.chan with
         |.chan (some r)=>(w'.heap[r]? matches some (.chan _ _ true ..))
         |_=>false)=false:=by
        rw[Array.any_eq_false];intro k U;obtain⟨zk,af⟩:=hS.get U
        have e:cases[k]=⟨.chan (chans k),none,zk⟩:=by
         rw[bm U]at af;exact dc af
        cases al:chans k with
        |none=>rw[al]at e; simp[e]
        |some c=>
         rw[al]at e;obtain⟨W,J,n,O,Y⟩:=hS.own k c U al;have no:=aj k c U al;rcases ah.ways (i:=W) (J:=J) (n:=n) ((ai W).trans ((hK W).trans O)) gA with⟨_,_,_,_,_,s2,r2,hx⟩|⟨_,_,_,_,_,_,hx⟩|⟨_,_,s2,r2,hx⟩
         .rw[Y]at hx; simp[e,hx]
         .exact absurd (Y▸hx) no
         .rw[Y]at hx; simp[e,hx]
       unfold fm;simp only[parked];exact congrArg some (if_neg (by rw[fa]; exact a3))
   intro gs w sl t h hK hN ax;rcases ax with⟨a',h0,am,a4⟩|⟨h0,hW⟩
   .obtain⟨i,g,d,ad,hi,hg,ax⟩:=cp (P:=P) (w:=w) (sl:=sl) (h.awake h0 (.inl am)) ⟨0,a',h0,am⟩;refine Z.back _ _ ?_;rw[ax];have y:=h.at d;rcases cC i with rfl|aa
    .obtain rfl:g=a':=by rw[h0]at hi; exact(dc hi).symm
     have ak:0<gs.size:=(bn.1 hi).1;have an:bw P (0==0) g (w.at d)=.comm a cases true .select (w.at d) #[]:=a4 (w.at d);have e0:cZ 0 g.frame.fn g.frame.place #[]=#[]:=by rw[ci]; simp
     have made:∀cc∈cases,c3 (w.at d) cc=false:=by
      intro cc ag;obtain⟨k,U,rfl⟩:=bp.1 ag;obtain⟨z,hz⟩:=hS.cs k cases[k] (bm U);rw[hz]
      cases al:chans k with
      |none=>rfl
      |some c=>
       obtain⟨W,J,n,O,Y⟩:=hS.own k c U al;obtain⟨cl,s,r,hx⟩:=y.is (ey.wY ((hK W).trans O));rw[Y]at hx;simp[c3,hx]
     have one:∀(k:Nat)cc,cases[k]?=some cc->(b7 (w.at d) (gs.setIfInBounds 0 ph) cc=[])\/∃i J n,chans k=some J.c/\K i=some (J,n)/\(∃z,cc=bW J.c z)/\((∃m S v,ρ i=.jc J m S n v/\b7 (w.at d) (gs.setIfInBounds 0 ph) cc=[.partner i 0]/\fS (w.at d) J.c false)\/(∃m S q,ρ i=.ended false J m S q/\n=J.L.length/\b7 (w.at d) (gs.setIfInBounds 0 ph) cc=[.closed]/\fS (w.at d) J.c true)):=by
      intro k cc ag;have U:k<cases.size:=(bn.1 ag).1;obtain⟨z,rfl⟩:=hS.cs k cc ag
      cases al:chans k with
      |none=>exact .inl rfl
      |some c=>
       obtain⟨W,J,n,O,Y⟩:=hS.own k c U al;subst Y;rcases y.ways ((hK W).trans O) z with⟨m1,S1,v1,x1,x2,x3⟩|⟨m1,S1,q1,x1,x2,x3,x4⟩|⟨_,x2,_⟩
       .exact .inr ⟨W,J,n,rfl,O,⟨z,rfl⟩,.inl ⟨m1,S1,v1,x1,x2,x3⟩⟩
       .exact .inr ⟨W,J,n,rfl,O,⟨z,rfl⟩,.inr ⟨m1,S1,q1,x1,x2,x3,x4⟩⟩
       .exact .inl x2
     by_cases ar:∃(k:Nat)(cc:CommCase),cases[k]?=some cc/\b7 (w.at d) (gs.setIfInBounds 0 ph) cc≠[]
     .rcases zN (P:=P) (sl:=ad) hi an made (λk cc ag=>by
       rcases one k cc ag with x|⟨W,J,n,_,_,⟨z,rfl⟩,⟨m1,S1,v1,_,x2,s,r,x3⟩|⟨m1,S1,q1,_,_,x3,s,r,x4⟩⟩
       .exact .inl x
       .exact .inr (.inr ⟨J.c,z,_,_,_,_,_,_,_,_,rfl,x3,x2⟩)
       .exact .inr (.inl ⟨J.c,z,_,_,_,_,_,rfl,x4,x3⟩)) ar with⟨k,c,z,d',U,hw,aq⟩|⟨k,c,z,d',j,q,cap,s,r,buf,cl,tm,U,aw,hw,aq⟩
      .rcases one k _ U with x|⟨W,J,n,aH,O,⟨z',ez⟩,⟨m1,S1,v1,_,x2,_⟩|⟨m1,S1,q1,ab,hn,_,_⟩⟩
       .rw[x]at hw; cases hw
       .rw[x2]at hw; cases hw
       .have ec:c=J.c:=by simp[bW]at ez; exact ez.1
        subst ec
        have aI:0<W:=by
         obtain⟨_,x,_,_⟩:=y.get (i:=W) (by rw[ab]; simp);exact x
        rw[aq,e0,bo];refine Z.next _ _ _ _ ?_;have hh:=(y.at d').hear (gs':=gs.setIfInBounds 0 (a.finishComm P cases .select k z false)) (fn:=a.frame.fn) (pos:=a.frame.place) aI ab (by simp) (λj hj=>bk (by omega));subst hn;exact he k W J z U aH O _ _ _ ad _ hh (N4 hK rfl) (by simp[ak]) (by simpa using hN)
      .rcases one k _ U with x|⟨W,J,n,aH,O,⟨z',ez⟩,⟨m1,S1,v1,ab,x2,s2,r2,hx⟩|⟨m1,S1,q1,ab,hn,x2,_⟩⟩
       .rw[x]at hw; cases hw
       .have ec:c=J.c:=by simp[bW]at ez; exact ez.1
        subst ec;rw[x2]at hw;obtain⟨rfl,rfl⟩:W=j/\0=q:=by simpa using hw
        have a9:(w.at d).heap[J.c]?=some (.chan 0 #[] false s2 r2 false):=hx;rw[a9]at aw;cases aw;obtain⟨gi,aI,aJ,ac⟩:=y.get (i:=W) (by rw[ab]; simp);rw[ab]at ac;obtain⟨av,_,g0,z0,rfl,ae⟩:=ac;have aK:(gs.setIfInBounds 0 ph)[W]?=some (parked g0 #[cd J.c v1 z0] .send):=by rw[bk (by omega)]; exact aJ
        have bd:bK (gs.setIfInBounds 0 ph) W 0=v1:=by simp[bK,aK,parked,cd]
        have be:=cr P (gs.setIfInBounds 0 ph) aK (cs:=#[cd J.c v1 z0]) (sh:=.send) rfl 0 gA;have bf:(gs.setIfInBounds 0 ph).getD W default=parked g0 #[cd J.c v1 z0] .send:=by rw[bs,aK]; rfl
        rw[aq,e0,bo,bd,be,bf];refine Z.next _ _ _ _ ?_;obtain⟨v2,aS,aC⟩:=ae.value av;have ev:v1=v2:=hS.flat W J n O v2 (cV aS) _ _ aC;subst ev
        obtain⟨ba,hh⟩:=(y.at d').Sa (gs':=(((gs.setIfInBounds 0 ph).setIfInBounds W ((parked g0 #[cd J.c v1 z0] .send).finishComm P #[cd J.c v1 z0] .send (0:Nat) gA (((#[cd J.c v1 z0]:Array CommCase)[0]?.map (·.send.isNone)).getD false))).setIfInBounds 0 (a.finishComm P cases .select k v1 true))) (g₁:=g0) (z:=z0) (u:=[({g:=W,fn:=g0.frame.fn,pos:=g0.frame.place,act:=.send J.c s}:MemOp),{g:=0,fn:=a.frame.fn,pos:=a.frame.place,act:=.recv J.c r 0},{g:=W,fn:=g0.frame.fn,pos:=g0.frame.place,act:=.sendDone J.c s},{g:=0,fn:=a.frame.fn,pos:=a.frame.place,act:=.recvDone J.c r}]) aI ab aJ a9 (s':=s+1) (r':=r+1) rfl Bc zF (by simp) (by
         rw[bk (by omega),bq (by simpa using(bn.1 aJ).1)]
         rfl) (λj hj a6=>by
         rw[bk (by omega),bk (gd a6),bk (by omega)])
        exact hv k W J n v1 (bn.1 U).1 aH O aS _ _ _ ad _ hh (N4 hK rfl) (by simp[ak]) (by simpa using hN)
       .rw[x2]at hw; cases hw
     .have a5:∀(k:Nat)cc,cases[k]?=some cc->b7 (w.at d) (gs.setIfInBounds 0 ph) cc=[]:=λk cc ag=>en λhx=>ar ⟨k,cc,ag,hx⟩
      have aq:=c4 (P:=P) (sl:=ad) hi an (λcc ag=>by
       obtain⟨k,U,rfl⟩:=bp.1 ag
       exact⟨made _ (Array.getElem_mem U),a5 k _ (bm U)⟩)
      rw[aq,e0];refine Z.next _ _ _ _ ?_;rw[br]
      have aT:Co P fx w0 Pd ρ m wl (gs.setIfInBounds 0 (parked a cases .select)) (w.at d) t:=by
       refine⟨y.main,λi g hi hg=>y.at_ i g hi (by rw[bk (by omega)]at hg; exact hg),λi hi=>y.out i (by simpa using hi),y.d0,y.dd,y.cc,y.s0,y.ss,y.L0,y.low,y.hears,y.jX,y.clean,y.fix,y.f0,y.ff,y.cx,y.sz,y.os,y.kn,y.pd,y.len⟩
      refine hB _ _ _ _ aT hK (by simpa using hN) (by simp[ak]) λk c U hc=>?_;obtain⟨W,J,n,O,Y⟩:=hS.own k c U hc;refine⟨W,J,n,O,Y,?_⟩;obtain⟨zk,af⟩:=hS.get U;have ap:=a5 k _ af;rw[hc,<-Y]at ap;rcases y.ways ((hK W).trans O) zk with⟨_,_,_,_,x2,_⟩|⟨_,_,_,_,_,x3,_⟩|⟨x,_⟩
      .rw[show(⟨.chan (some J.c),none,zk⟩:CommCase)=bW J.c zk from rfl,x2]at ap; cases ap
      .rw[show(⟨.chan (some J.c),none,zk⟩:CommCase)=bW J.c zk from rfl,x3]at ap; cases ap
      .exact x
    .obtain⟨gs',w',ops,ρ',hr,ah,aD,ai,aE,hz,_,_⟩:=y.other (sl:=ad) aa hi hg h0 λJ mi S n _ _ _ _ _ _=>bT (by rw[am]; simp) _ _;rw[hr];refine Z.next _ _ _ _ (ih ρ' (hN▸aD) gs' w' ad (t++ops) ah (λj=>(ai j).trans (hK j)) (aE.trans hN) (.inl ⟨a',?_,am,a4⟩));rcases hz with⟨x,_⟩|x
     .exact x
     .rw[x,cw _ (.inl am)]
   .exact hB gs w sl t h hK hN h0 hW
 intro ρ gs w sl t h hK h0 hN;exact key ρ (hN▸h.acc) gs w sl t h hK hN (.inl ⟨a,h0,hS.run,hS.step⟩)
end
end
end Go.Proofs.YtocbogeoffeolaaGreatDoor
