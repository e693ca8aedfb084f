import Derived.Test.YtocbogeoffeolaaGreatDoorRefAE
import Derived.DyingOn
import Derived.Conc.Beside
import Derived.Conc.CrowdComm
set_option linter.all false
set_option maxHeartbeats 8000000
set_option maxRecDepth 1000000
open Array renaming getElem?_setIfInBounds_ne->bm,getElem?_eq_getElem->bn,getElem?_eq_some_iff->bo,empty_append->bp,mem_iff_getElem->bq,getElem?_setIfInBounds_self_of_lt->br,append_empty->bs,getD_eq_getD_getElem?->bt,getElem?_map->bu,mem_append->bv,swapAt!->bw
open Go renaming stepG->bx,communicate->bz,doReturn->b4,unwind->b5,Trace->b6,tryRecover->b7,ways->b8,lone->b9,runN->bA,step_lone_ended->bB,callDeferred->bC,partners->bD,endThrow->bE,step_lone_go->bF,goexitEntry->bG,seen->bH,oneG->bI,FuncId->bJ,yielded->bK,offeredValue->bL,dieOf->bM,runT->bN,TypeId->bO,HappensBefore->bP,resolve->bQ,stepT->bR,commResult->bS,Race->bT
open Go.Conc renaming offersAt_of_not_blocked->bU,mem_ofEvents->bV,served->bW,rcase->bX,crowd->bY,offersAt->bZ,touchAt->cb,runT_crowd_go->cd,scase->ce,getElem?_stand->cf,getElem?_append_old->cg,offersAt_ph->ci,ofEvents_eq->cj,noRace_append->ck,offersAt_parked_send->cm,Knows->cn,lt_size_of_getElem?->cp,crowd_pick->cq,knows_own->cr,finishPartner_at->cu,runT_crowd_comm->cv,mem_of_getElem?->cw,again_running->cy,woken_quitsD->cz,partners_one->c2,partners_nil->c3,illMade->c4,crowd_waits->c5,woken->c6,awake->c7
open Go.stepG renaming apply->c8,exec->c9
open Nat renaming lt_of_lt_of_le->cA,le_refl->cB,le_trans->cC,eq_zero_or_pos->cD,exists_eq_add_of_le->cE,lt_of_succ_le->cF,le_of_succ_le->cG,le_succ->cH
open Go.ConcN renaming upd_same->cI,upd_ne->cJ,upd->cK
open Go.GStep renaming after->cL
open Go.Sem renaming run->cM,runT_fst->cN,run_bind'->cO,bind->cP,runT->cQ
open List renaming not_mem_nil->cR,mem_cons->cS,getElem?_cons_zero->cT,mem_iff_getElem?->cU,getElem?_toArray->cV,mem_of_getElem?->cW,mem_toArray->cX,mem_filter->cY,mem_map->cZ
open Go.MemOp renaming ofEvents->db
open Option.some renaming injEq->dc,inj->de
open Go.Frame renaming catches->dg,eval->dh,pos->di,raise->dk,round->dl,oper?->dn
open Go.MemAct renaming ofEvent->dp,touch?->dq
open Classical renaming byContradiction->dr,choose->du,choose_spec->dv,em->dw
open Bool renaming false_eq_true->dx,not_eq_true->dy
open Go.Stepped.next renaming injEq->dz
open Go.Goroutine renaming callers->dA,frame->dB,again->dC,status->dD,finishComm->dE,dyingOn->dF,canRun->dG
open Ne renaming symm->dH
open Go.Question renaming forced->dI
open Go.Instr renaming endRound->dJ,beginRound->dK
open Option renaming map_some->dL,getD_some->dM
open Go.Trace renaming act?->dN,g?->dO
open Go.Region renaming wanted->dP,schedule->dQ
open Go renaming undef->dR
namespace Go.Proofs.YtocbogeoffeolaaGreatDoor
section
open Go.Conc
variable {P:Program} {m:Ren} {s:Sem Go.Next} {α β:Type} {w w' w₁:World}
def tp(w:World)(τ:Nat->Question->Nat):World:={w with tape:=τ}
def DM{α:Type}:Result α->World
 |.ok _ w=>w
 |.halt _ w=>w
def Bc{α:Type}(P:Program)(s:Sem α)(w:World)(τ:Nat->Question->Nat):Result α->Prop
 |.ok a w₁=>s.run P (tp w τ)=.ok a (tp w₁ τ)
 |.halt (.panic v) w₁=>s.run P (tp w τ)=.halt (.panic v) (tp w₁ τ)
 |_=>True
def xi(τ:Nat->Question->Nat)(w w₁:World):Prop:=∀i,w.drawn<=i->i<w₁.drawn->τ i=w.tape i
def SS{α:Type}(P:Program)(s:Sem α)(w:World):Prop:=
 w.drawn<=(DM (s.run P w)).drawn/\(DM (s.run P w)).tape=w.tape/\∀τ,xi τ w (DM (s.run P w))->Bc P s w τ (s.run P w)
def Loc{α:Type}(P:Program)(s:Sem α)(w:World):Prop:=(∃x w₁,s.run P w=.halt x w₁/\mU x)\/SS P s w
theorem Loc.step{s:Sem α}{k:Sem α}(h:Loc P k w₁)(e:s.run P w=k.run P w₁)(hd:w₁.drawn=w.drawn)(ht:w₁.tape=w.tape)(U:∀τ,s.run P (tp w τ)=k.run P (tp w₁ τ)):Loc P s w:=by
 rcases h with⟨x,lV,Y,h2⟩|⟨Y,h2,h3⟩
 .exact .inl ⟨x,lV,e.trans Y,h2⟩
 .refine .inr ⟨by rw[e,<-hd]; exact Y,by rw[e,h2,ht],λτ O=>?_⟩;rw[e]at O⊢;have:=h3 τ λi a b=>by rw[ht]; exact O i (hd▸a) b
  revert this
  cases k.run P w₁ with
  |ok a w2=>intro h; show s.run P _=_; rw[U]; exact h
  |halt x w2=>cases x<;>intro h<;>first|trivial|(show s.run P _=_; rw[U]; exact h)
theorem gC.loc{RA:Ren->α->β->Prop}{s:Sem α}{s':Sem β}(h:gC P RA m s s'):∀(w w':World),WR m w w'->Loc P s w:=by
 induction h with
 |gF hd=>exact λw w' _=>.inl (hd.run w)
 |pure hr=>exact λw w' _=>.inr ⟨cB _,rfl,λτ _=>rfl⟩
 |@load m a a' k k' ha _ U=>
  intro w w' O
  cases hc:w.cell? a with
  |some v=>
   obtain⟨v',aj,hv⟩:=O.cell ha hc;refine(U v v' hv w w' O).step (by simp only[cM,hc]) rfl rfl λτ=>?_;have ab:(tp w τ).cell? a=some v:=hc;simp only[cM,ab]
  |none=>
   obtain⟨y,hy⟩:=O.PA ha hc P (Mode.plain==.atomic);exact .inl ⟨.stuck y,w,by simp only[cM,hc,hy],trivial⟩
 |@store m a a' v v' k k' ha hv _ U=>
  intro w w' O;by_cases Y:∃c,v=.agg c
  .obtain⟨c,rfl⟩:=Y;exact .inl ⟨.stuck "store: not the value of one cell",w,by simp only[cM],trivial⟩
  by_cases h2:∃c,v=.tuple c
  .obtain⟨c,rfl⟩:=h2;exact .inl ⟨.stuck "store: not the value of one cell",w,by simp only[cM],trivial⟩
  have e1:∀w:World,(Sem.store Mode.plain a v k).run P w=match w.cell? a with
    |some _=>if w.frozen? a then .halt (.unsupported (.unsafePointer "a write to bytes that a string shares")) w else k.run P (w.setCell a v)
    |none=>match w.farStore P a v (Mode.plain==.atomic)with
     |.ok (w,_)=>k.run P w
     |.error h=>.halt h w:=by
   intro w;rw[cM]
   .rfl
   .exact λc e=>Y ⟨c,e⟩
   .exact λc e=>h2 ⟨c,e⟩
  cases hc:w.cell? a with
  |none=>
   obtain⟨y,hy⟩:=O.Lb ha hc P v (Mode.plain==.atomic);exact .inl ⟨.stuck y,w,by rw[e1,hc]; simp only[hy],trivial⟩
  |some u=>
   by_cases hf:w.frozen? a=true
   .exact .inl ⟨.unsupported (.unsafePointer "a write to bytes that a string shares"),w,by rw[e1,hc]; simp only[hf,if_true],trivial⟩
   .refine(U (w.setCell a v) _ (O.setCell ha hv λah=>by cases v<;>first|exact ah.elim|exact Y ⟨_,rfl⟩|exact h2 ⟨_,rfl⟩)).step (by rw[e1,hc]; simp only[hf,if_false,dx]) rfl rfl λτ=>?_;have ab:(tp w τ).cell? a=some u:=hc;have ai:¬(tp w τ).frozen? a=true:=hf;rw[e1,ab];simp only[ai,if_false,dx];rfl
 |@new m o o' k k' ho hc _ U=>
  intro w w' O;have ac:=Ren.xr O.jW O.oh O.TN;have ad:(m.ext w.heap.size w'.heap.size O.jW O.oh O.TN).blk w.heap.size=some w'.heap.size:=by simp[Ren.ext]
  exact(U _ _ _ ac ad (by simp[Ren.ext]) {w with heap:=w.heap.push o} _ (O.push ho hc)).step rfl rfl rfl λτ=>rfl
 |@s8 m c b x s r t c' b' x' s' r' t' k k' ak _ U=>
  intro w w' O;have ac:=Ren.zD O.sL O.qn;have ad:(m.vj w.heap.size w'.heap.size O.sL O.qn).ch w.heap.size=some w'.heap.size:=by simp[Ren.vj]
  exact(U _ _ _ ac ad {w with heap:=w.heap.push (.chan c b x s r t)} _ (O.Po (.chan c b x s r t) (.chan c' b' x' s' r' t'))).step rfl rfl rfl λτ=>rfl
 |shape hb _ U=>exact λw w' O=>(U _ w w' O).step rfl rfl rfl λτ=>rfl
 |@freeze m a a' n k k' ha hn _ U=>
  intro w w' O;refine(U (w.freeze a n) _ (O.freeze ha hn n)).step rfl (by unfold World.freeze; split<;>rfl) (by unfold World.freeze; split<;>rfl) λτ=>?_;have:(tp w τ).freeze a n=tp (w.freeze a n) τ:=by unfold World.freeze; split<;>rfl
  simp only[cM,this]
 |frozen ha hn _ U=>exact λw w' O=>(U _ w w' O).step rfl rfl rfl λτ=>rfl
 |getObj hb _ U=>
  intro w w' O;obtain⟨x,x',Y,h2,ho⟩:=O.obj _ _ hb;have aa:∀τ,(tp w τ).heap[_]?=some x:=λ_=>Y
  cases ho with
  |cells=>exact .inl ⟨.stuck "getObj: a row of cells",w,by simp only[cM,Y],trivial⟩
  |map clock he=>exact(U _ _ (.map clock he) w w' O).step (by simp only[cM,Y]) rfl rfl λτ=>by simp only[cM,aa]
  |number l hx=>exact(U _ _ (.number l hx) w w' O).step (by simp only[cM,Y]) rfl rfl λτ=>by simp only[cM,aa]
  |stringIter s p=>exact(U _ _ (.stringIter s p) w w' O).step (by simp only[cM,Y]) rfl rfl λτ=>by simp only[cM,aa]
  |j9 a b c=>exact(U _ _ (.j9 a b c) w w' O).step (by simp only[cM,Y]) rfl rfl λτ=>by simp only[cM,aa]
  |mapIter a b c hm=>exact(U _ _ (.mapIter a b c hm) w w' O).step (by simp only[cM,Y]) rfl rfl λτ=>by simp only[cM,aa]
  |loop hl=>exact(U _ _ (.loop hl) w w' O).step (by simp only[cM,Y]) rfl rfl λτ=>by simp only[cM,aa]
  |iR=>exact(U _ _ .iR w w' O).step (by simp only[cM,Y]) rfl rfl λτ=>by simp only[cM,aa]
  |deferred hd=>exact(U _ _ (.deferred hd) w w' O).step (by simp only[cM,Y]) rfl rfl λτ=>by simp only[cM,aa]
 |@setObj m r r' o o' k k' hb ho hc _ U=>
  intro w w' O;obtain⟨x,x',Y,h2,hx⟩:=O.obj _ _ hb;have aa:∀τ,(tp w τ).heap[r]?=some x:=λ_=>Y;rcases dw (m.loose r)with ae|ae
  .obtain⟨c,e,f,hy⟩:=O.lk _ _ hb ae;exact .inl ⟨.stuck "setObj: a row of cells",w,by simp only[cM,hy],trivial⟩
  have af:=O.turn hb ho (λc e f c' e' f' e1 _=>absurd e1 (hc c e f)) (λh=>absurd h ae) (λc e f c' e' f' e1 _=>absurd e1 (hc c e f));have fin:=U {w with heap:=w.heap.setIfInBounds r o} _ af
  cases hx with
  |cells=>exact .inl ⟨.stuck "setObj: a row of cells",w,by simp only[cM,Y],trivial⟩
  |_=>
   refine fin.step ?_ rfl rfl λτ=>?_
   .simp only[cM,Y]
   .simp only[cM,aa];rfl
 |@choose m q k k' _ U=>
  intro w w' O;by_cases hf:q.forced=true
  .exact(U 0 w w' O).step (by simp only[cM,hf,if_true]) rfl rfl λτ=>by simp only[cM,hf,if_true]
  .have e:(Sem.choose q k).run P w=(k (q.cut (w.tape w.drawn q))).run P {w with drawn:=w.drawn+1}:=by simp only[cM,hf,if_false,dx]
   rcases U (q.cut (w.tape w.drawn q)) {w with drawn:=w.drawn+1} w' (O.draw _ w'.drawn)with⟨x,lV,Y,h2⟩|⟨Y,h2,h3⟩
   .exact .inl ⟨x,lV,e.trans Y,h2⟩
   .refine .inr ⟨by rw[e]; exact cC (cH _) Y,by rw[e,h2],λτ ag=>?_⟩;rw[e]at ag⊢;have e0:τ w.drawn=w.tape w.drawn:=ag _ (cB _) (cF Y)
    have e2:(Sem.choose q k).run P (tp w τ)=(k (q.cut (w.tape w.drawn q))).run P (tp {w with drawn:=w.drawn+1} τ):=by
     simp only[cM,hf,if_false,dx];show(k (q.cut (τ w.drawn q))).run P _=_;rw[e0]; rfl
    have:=h3 τ λi a b=>ag i (cG a) b;revert this
    cases(k _).run P _ with
    |ok a w2=>intro h; show(Sem.choose q k).run P _=_; rw[e2]; exact h
    |halt x w2=>cases x<;>intro h<;>first|trivial|(show(Sem.choose q k).run P _=_; rw[e2]; exact h)
 |gone hd=>
  intro w w' O;obtain⟨_,c,e,f,hx⟩:=O.dead _ hd;exact .inl ⟨.stuck "getObj: a row of cells",w,by simp only[cM,hx],trivial⟩
 |env _ U=>exact λw w' O=>(U _ w w' O).step rfl rfl rfl λτ=>rfl
 |program _ U=>exact λw w' O=>(U w w' O).step rfl rfl rfl λτ=>rfl
 |mark hm _ U=>exact λw w' O=>(U w w' O).step rfl rfl rfl λτ=>rfl
 |panic hv=>exact λw w' _=>.inr ⟨cB _,rfl,λτ _=>rfl⟩
theorem align(h:WR m w w'):∃O:World,WR m w O/\Al w O/\O.heap=w'.heap:=by
 refine⟨{w' with tape:=λi q=>w.tape (i-w'.drawn+w.drawn) q},⟨h.obj,h.fz,h.all,h.NY,h.Od,h.LR,h.os,h.n5,h.lk,h.dead,h.ur⟩,λi q=>?_,rfl⟩;show w.tape _ q=w.tape _ q;have:w'.drawn+i-w'.drawn+w.drawn=w.drawn+i:=by omega
 rw[this]
theorem nL.loc{RA:Ren->α->β->Prop}{s:Sem α}{s':Sem β}(h:nL P RA m s s'):∀(w w':World),WR m w w'->Loc P s w:=by
 induction h with
 |base h=>exact h.loc
 |@bind γ δ RC m s s' f f' h _ ih=>
  intro w w' hw;obtain⟨ab,ac,ad,_⟩:=align hw;have U:=h.run w ab #[] ac (.inl ad);rcases h.loc w w' hw with⟨x,lV,Y,h2⟩|⟨Y,h2,h3⟩
  .exact .inl ⟨x,lV,by rw[cO,Y]; rfl,h2⟩
  .cases hr:s.run P w with
   |halt x wn=>
    have eb:(s.bind f).run P w=.halt x wn:=by rw[cO,hr]; rfl
    rw[hr]at Y h2 h3 U
    cases x with
    |panic v=>
     refine .inr ⟨by rw[eb]; exact Y,by rw[eb]; exact h2,λτ O=>?_⟩;rw[eb]at O⊢;have:=h3 τ O;show(s.bind f).run P (tp w τ)=_;rw[cO,show s.run P (tp w τ)=.halt (.panic v) (tp wn τ)from this];rfl
    |unsupported u=>cases u<;>first|exact U.elim|exact .inl ⟨_,wn,eb,trivial⟩
    |stuck y=>exact .inl ⟨_,wn,eb,trivial⟩
    |throw y=>exact .inl ⟨_,wn,eb,trivial⟩
    |_=>exact U.elim
   |ok a wn=>
    rw[hr]at Y h2 h3 U;obtain⟨gE,b,ae,es₁,e1,e2,e3,e4,_⟩:=U;have eb:(s.bind f).run P w=(f a).run P wn:=by rw[cO,hr]; rfl
    rcases ih gE a b e2 e3 wn ae e4 with⟨x,lV,g1,g2⟩|⟨g1,g2,g3⟩
    .exact .inl ⟨x,lV,eb.trans g1,g2⟩
    .refine .inr ⟨by rw[eb]; exact cC Y g1,by rw[eb,g2]; exact h2,λτ O=>?_⟩;rw[eb]at O⊢;have ha:=h3 τ λi x y=>O i x (cA y g1);have hb:=g3 τ λi x y=>by rw[show wn.tape=w.tape from h2]; exact O i (cC Y x) y
     have aa:(s.bind f).run P (tp w τ)=(f a).run P (tp wn τ):=by rw[cO,ha]; rfl
     revert hb
     cases(f a).run P wn with
     |ok c w2=>intro h; show(s.bind f).run P _=_; rw[aa]; exact h
     |halt x w2=>cases x<;>intro h<;>first|trivial|(show(s.bind f).run P _=_; rw[aa]; exact h)
 |@UK m q k s' hd h=>
  intro w w' hw;by_cases hf:q.forced=true
  .exact((h 0).loc w w' hw).step (by simp only[cM,hf,if_true]) rfl rfl λτ=>by simp only[cM,hf,if_true]
  .have e:(Sem.choose q k).run P w=(k (q.cut (w.tape w.drawn q))).run P {w with drawn:=w.drawn+1}:=by simp only[cM,hf,if_false,dx]
   rcases(h _).loc _ w' (hw.draw _ _)with⟨x,lV,Y,h2⟩|⟨Y,h2,h3⟩
   .exact .inl ⟨x,lV,e.trans Y,h2⟩
   .refine .inr ⟨by rw[e]; exact cC (cH _) Y,by rw[e,h2],λτ O=>?_⟩;rw[e]at O⊢;have e0:=O _ (cB _) (cF Y)
    have e2:(Sem.choose q k).run P (tp w τ)=(k (q.cut (w.tape w.drawn q))).run P (tp {w with drawn:=w.drawn+1} τ):=by
     simp only[cM,hf,if_false,dx];show(k (q.cut (τ w.drawn q))).run P _=_;rw[e0]; rfl
    have:=h3 τ λi a b=>O i (cG a) b;revert this
    cases(k _).run P _ with
    |ok a w2=>intro h; show(Sem.choose q k).run P _=_; rw[e2]; exact h
    |halt x w2=>cases x<;>intro h<;>first|trivial|(show(Sem.choose q k).run P _=_; rw[e2]; exact h)
def zu(P:Program)(s:World->GStep)(w:World)(iH:Frame)(iI:List Frame)(w₁:World):Prop:=
 w.drawn<=w₁.drawn/\w₁.tape=w.tape/\∀τ,xi τ w w₁->∃es,s (tp w τ)=.go (G iH iI) (tp w₁ τ) es
theorem jL{s:Sem α}{r:Result α}(h:s.run P w=r):∃es,s.runT P w #[]=(r,es):=by
 refine⟨(s.runT P w #[]).2,?_⟩;rw[<-h,<-cN P s w _]
theorem Mw(ab:P.follows .rangeFuncRecover=true){fr:Frame}{cs:List Frame}(Y:Loc P s w)(ae:∀n O,s.run P w=.ok n O->∃m n',ki P m n n')(ad:∀x O,s.run P w=.halt x O->(∃v,x=.panic v)\/mU x){iH:Frame}{iI:List Frame}{es:Array Event}
  (h:c8 P true fr cs none s w=.go (G iH iI) w₁ es):zu P (c8 P true fr cs none s) w iH iI w₁:=by
 rcases hrt:s.runT P w #[]with⟨r,ah⟩;have aa:s.run P w=r:=by rw[<-cN P s w #[],hrt]
 unfold c8 at h;simp only[if_true]at h;rw[hrt]at h;rcases Y with⟨x,lV,h1,h2⟩|⟨h1,h2,h3⟩
 .rw[aa]at h1;subst h1;exfalso
  cases x with
  |unsupported u=>cases u<;>first|exact h2.elim|cases h
  |stuck y=>cases h
  |throw y=>simp[bE,bM,cL,G]at h
  |_=>exact h2.elim
 .rw[aa]at h1 h2 h3
  have fin:∀{X:Array Event}{g:Goroutine}{O:World},DM r=O->cL X (.go g O)=.go (G iH iI) w₁ es->(∀τ,Bc P s w τ r->∃X',c8 P true fr cs none s (tp w τ)=cL X' (.go g (tp O τ)))->zu P (c8 P true fr cs none s) w iH iI w₁:=by
   intro X g O e hh hk;simp only[cL,GStep.go.injEq]at hh;obtain⟨rfl,rfl,_⟩:=hh;subst e;refine⟨h1,h2,λτ af=>?_⟩;obtain⟨X',e⟩:=hk τ (h3 τ af);exact⟨_,e⟩
  have plain:∀{X:Array Event}{g:Goroutine}{O:World},DM r=O->cL X (.go g O)=.go (G iH iI) w₁ es->(∀τ U,s.runT P (tp w τ) #[]=(match r with|.ok n w=>.ok n (tp w τ)|.halt x w=>.halt x (tp w τ),U)->∃X',c8 P true fr cs none s (tp w τ)=cL X' (.go g (tp O τ)))->(∃n O,r=.ok n O)\/(∃v O,r=.halt (.panic v) O)->zu P (c8 P true fr cs none s) w iH iI w₁:=by
   intro X g O e hh hk hr;refine fin e hh λτ Y=>?_;rcases hr with⟨n,O,rfl⟩|⟨v,O,rfl⟩
   .obtain⟨e',e⟩:=jL Y;exact hk τ e' e
   .obtain⟨e',e⟩:=jL Y;exact hk τ e' e
  cases r with
  |ok n O=>
   obtain⟨m,n',hn⟩:=ae n O aa
   cases hn with
   |value hv=>exact plain rfl h (λτ U e=>by unfold c8; simp only[if_true,e]; exact⟨_,rfl⟩) (.inl ⟨_,_,rfl⟩)
   |skip=>exact plain rfl h (λτ U e=>by unfold c8; simp only[if_true,e]; exact⟨_,rfl⟩) (.inl ⟨_,_,rfl⟩)
   |enter hf ag ha=>exact plain rfl h (λτ U e=>by unfold c8; simp only[if_true,e]; exact⟨_,rfl⟩) (.inl ⟨_,_,rfl⟩)
   |round Y ht ha ag=>exact plain rfl h (λτ U e=>by unfold c8; simp only[if_true,e]; exact⟨_,rfl⟩) (.inl ⟨_,_,rfl⟩)
   |defer hd=>exact plain rfl h (λτ U e=>by unfold c8; simp only[if_true,e]; exact⟨_,rfl⟩) (.inl ⟨_,_,rfl⟩)
   |comm bl sh hq hc=>cases h
   |spawn ai hd=>
    exfalso;clear plain fin h1 h2 h3 hrt aa;dsimp only at h;generalize bH P fr.fn _=X at h;rw[apply_ite (cL X)]at h
    have key:∀(c:Prop)[Decidable c] (A B C:GStep),(if c then A else B)=C->A=C\/B=C:=by
     intro c _ A B C hh;split at hh
     .exact .inl hh
     .exact .inr hh
    rcases key _ _ _ _ h with h|h
    .simp[bE,bM,cL,G]at h
    .simp[cL]at h
   |recover=>
    clear plain;obtain⟨fn,tm,td,df,md,kd,rd⟩:=fr
    cases rd with
    |none=>
     dsimp only at h;revert h;generalize ac:b7 _ cs=p;intro h
     cases p with
     |none=>
      refine fin rfl h λτ Y=>?_;obtain⟨e',e⟩:=jL Y;unfold c8;simp only[if_true,e];rw[ac];exact⟨_,rfl⟩
     |some x=>
      obtain⟨v,c⟩:=x;refine fin rfl h λτ Y=>?_;obtain⟨e',e⟩:=jL Y;unfold c8;simp only[if_true,e];rw[ac];exact⟨_,rfl⟩
    |some l=>
     dsimp only at h;rw[if_pos ab]at h;revert h;generalize ac:b7 _ cs=p;intro h
     cases p with
     |none=>
      refine fin rfl h λτ Y=>?_;obtain⟨e',e⟩:=jL Y;unfold c8;simp only[if_true,e,ab];rw[ac];exact⟨_,rfl⟩
     |some x=>
      refine fin rfl h λτ Y=>?_;obtain⟨e',e⟩:=jL Y;unfold c8;simp only[if_true,e,ab];rw[ac];exact⟨_,rfl⟩
  |halt x O=>
   cases x with
   |panic v=>exact plain rfl h (λτ U e=>by unfold c8; simp only[if_true,e]; exact⟨_,rfl⟩) (.inr ⟨_,_,rfl⟩)
   |stuck y=>cases h
   |throw y=>simp[bE,bM,cL,G]at h
   |unsupported u=>
    rcases ad _ _ aa with⟨v,hv⟩|hv
    .cases hv
    .cases u<;>first|exact hv.elim|cases h
   |_=>
    rcases ad _ _ aa with⟨v,hv⟩|hv
    .cases hv
    .exact hv.elim
theorem nL.outs{s':Sem Go.Next}(h:nL P (ki P) m s s')(hw:WR m w w'):(∀n O,s.run P w=.ok n O->∃m n',ki P m n n')/\(∀x O,s.run P w=.halt x O->(∃v,x=.panic v)\/mU x):=by
 obtain⟨Y,aa,ab,_⟩:=align hw;have U:=h.run w Y #[] aa ab;constructor
 .intro n O e;rw[e]at U;obtain⟨gE,b,_,_,_,_,e3,_⟩:=U;exact⟨gE,b,e3⟩
 .intro x O e;rw[e]at U;cases x<;>first|exact .inl ⟨_,rfl⟩|exact .inr U
end
section
open Go.Conc
variable {d':Deferred} {fr fr':Frame} {cs cs':List Frame} {s':Sem Go.Next} {w' w₁:World}
def nC(P:Program)(d:Deferred):Goroutine:={frame:={(default:Frame)with fn:=P.funcs.size,defers:=[d],mode:=.panicking [bG]},callers:=[],status:=.running,dying:=none}
inductive rC(P:Program):GStep->Prop
 |go (g c w es):rC P (.go (G g c) w es)
 |ended (o w es):rC P (.ended o w es)
 |dies (g w es):dF P g->rC P (.go g w es)
 |comm (g c k b s w es):rC P (.comm (G g c) k b s w es)
 |spawn (g c d w es):rC P (.spawn (G g c) (nC P d) w es)
theorem rC.after{P:Program}{s:GStep}(h:rC P s)(X:Array Event):rC P (cL X s):=by
 cases h with
 |go g c w es=>exact .go ..
 |ended o w es=>exact .ended ..
 |dies g w es h=>exact .dies _ _ _ h
 |comm g c k b s w es=>exact .comm ..
 |spawn g c d w es=>exact .spawn ..
theorem uW{P:Program}(fr:Frame)(y:String)(w:World):rC P (bE fr y w):=.dies _ _ _ (dieOf_okD (P:=P) fr [] y false w)
section
variable {P:Program} {m:Ren} {T:List Frame} {gl:Nat->Prop} {st:Bool}
def KV(P:Program)(m:Ren)(T:List Frame)(s':GStep)(w':World)(g:Goroutine)(k:Array CommCase)(b:Bool)(sh:CommShape)(w₁:World):Prop:=
 ∃fr cs gE fr' cs' k' O es,g=G fr cs/\s'=.comm (G fr' cs') k' b sh O es/\(m.kK\/Lj k b sh)/\m.Le gE/\gX P gE T (fr::cs) (fr'::cs')/\gW (CR gE) k.toList k'.toList/\WR gE w₁ O/\jj m gE w' O/\∀e∈es,qY gE e
def KY(P:Program)(m:Ren)(T:List Frame)(s':GStep)(w':World)(g ch:Goroutine)(w₁:World):Prop:=
 ∃fr cs d gE fr' cs' d' O es,g=G fr cs/\ch=nC P d/\s'=.spawn (G fr' cs') (nC P d') O es/\m.kK/\m.Le gE/\gX P gE T (fr::cs) (fr'::cs')/\DR gE d d'/\WR gE w₁ O/\jj m gE w' O/\∀e∈es,qY gE e
theorem JR(h:jx m fr fr'):fr'.noResult P=fr.noResult P:=by
 have O:=h.todo;unfold Frame.noResult
 have:fr'.oper?=fr.oper?:=by
  unfold dn;revert O;generalize fr.todo=l;generalize fr'.todo=U;intro O
  cases O with
  |nil=>rfl
  |cons hi _=>
   cases hi with
   |inRegion ops t Y=>cases t<;>rfl
   |_=>rfl
 rw[this]
theorem Ah{d:Deferred}(h:DR m d d'):((d'.target matches .nil):Bool)=(d.target matches .nil):=by
 have:=h.target;revert this;generalize d.target=a;generalize d'.target=b;intro x;cases x<;>rfl
theorem Jg{d:Deferred}(h:DR m d d'):d'.args.isEmpty=d.args.isEmpty:=by
 have:=h.args.size;simp[Array.isEmpty,this]
theorem JD(ad:P.follows .rangeFuncRecover=true){s:Sem Go.Next}{w:World}(ab:∀n Y,s.run P w=.ok n Y->∃m n',ki P m n n')(aa:∀x Y,s.run P w=.halt x Y->(∃v,x=.panic v)\/mU x):rC P (c8 P true fr cs none s w):=by
 rcases hrt:s.runT P w _ with⟨r,ae⟩;have U:s.run P w=r:=by rw[<-cN P s w _,hrt]
 unfold c8;rw[hrt];refine rC.after ?_ _
 cases r with
 |ok n Y=>
  obtain⟨m,n',hn⟩:=ab n Y U
  cases hn with
  |value O=>exact .go ..
  |skip=>exact .go ..
  |enter hf ac ha=>exact .go ..
  |round hl ht ha ac=>exact .go ..
  |defer hd=>exact .go ..
  |comm bl sh hq hc=>exact .comm ..
  |spawn af hd=>
   have key:∀(c:Prop)[Decidable c] (A B:GStep),rC P A->rC P B->rC P (if c then A else B):=by
    intro c _ A B h1 h2;split
    .exact h1
    .exact h2
   exact key _ _ _ (uW ..) (.spawn ..)
  |recover=>
   obtain⟨fn,tm,td,df,md,kd,rd⟩:=fr
   cases rd with
   |none=>
    dsimp only;split<;>exact .go ..
   |some l=>
    dsimp only;split<;>exact .go ..
 |halt x Y=>
  cases x with
  |panic v=>exact .go ..
  |stuck y=>exact .ended ..
  |throw y=>exact uW ..
  |unsupported u=>
   rcases aa _ _ U with⟨v,O⟩|O
   .cases O
   .cases u<;>first|exact O.elim|exact .ended ..
  |_=>
   rcases aa _ _ U with⟨v,O⟩|O
   .cases O
   .exact O.elim
theorem K0(hE:wN P m)(hS:gX P m T (fr::cs) (fr'::cs')){s:Sem Go.Next}(hs:nL P (ki P) m s s'){w:World}(hw:WR m w w')(aa:Al w w'){g:Goroutine}{k:Array CommCase}{b:Bool}{sh:CommShape}{es:Array Event}
  (h:c8 P true fr cs none s w=.comm g k b sh w₁ es):KV P m T (c8 P true fr' cs' none s' w') w' g k b sh w₁:=by
 have hr:=hs.run w w' #[] hw aa;have Y:=(hs.outs hw).2;unfold c8 at h⊢;simp only[if_true]at h⊢;rcases hrt:s.runT P w #[]with⟨r,ac⟩;have O:s.run P w=r:=by rw[<-cN P s w #[],hrt]
 rw[O]at hr;rw[hrt]at h
 cases r with
 |ok n wn=>
  obtain⟨gE,n',ab,es₁,e1,e2,e3,e4,_,e6,e7⟩:=hr;rw[e1];simp only[bp]at h⊢
  cases e3 with
  |comm bl sh hq hc=>
   simp only[cL,GStep.comm.injEq]at h;obtain⟨rfl,rfl,rfl,rfl,rfl,_⟩:=h;exact⟨fr,cs,gE,fr',cs',_,ab,_,rfl,rfl,hq.imp (λx=>e2.kK▸x) id,e2,hS.mono e2,hc,e4,e6,ww e7⟩
  |spawn ad hd=>
   have key:∀(X:Array Event)(c:Prop)[Decidable c] (A B C:GStep),cL X (if c then A else B)=C->(c/\cL X A=C)\/(¬c/\cL X B=C):=by
    intro X c _ A B C hh;split at hh
    .exact .inl ⟨‹_›,hh⟩
    .exact .inr ⟨‹_›,hh⟩
   rcases key _ _ _ _ _ h with⟨_,h⟩|⟨hc,h⟩
   .simp[bE,bM,cL]at h
   .simp[cL]at h
  |recover=>
   obtain⟨fn,tm,td,df,md,kd,rd⟩:=fr
   cases rd with
   |none=>
    revert h;generalize b7 _ cs=p;intro h;cases p<;>cases h
   |some l=>
    dsimp only at h;rw[if_pos hE.TW]at h;revert h;generalize b7 _ cs=p;intro h;cases p<;>cases h
  |_=>cases h
 |halt x wn=>
  cases x with
  |panic v=>cases h
  |stuck y=>cases h
  |throw y=>cases h
  |unsupported u=>
   rcases Y _ _ O with⟨v,U⟩|U
   .cases U
   .cases u<;>first|exact U.elim|cases h
  |_=>
   rcases Y _ _ O with⟨v,U⟩|U
   .cases U
   .exact U.elim
theorem Gt(hE:wN P m)(hS:gX P m T (fr::cs) (fr'::cs')){s:Sem Go.Next}(hs:nL P (ki P) m s s'){w:World}(hw:WR m w w')(aa:Al w w'){g ch:Goroutine}{es:Array Event}
  (h:c8 P true fr cs none s w=.spawn g ch w₁ es):KY P m T (c8 P true fr' cs' none s' w') w' g ch w₁:=by
 have hr:=hs.run w w' #[] hw aa;have Y:=(hs.outs hw).2;unfold c8 at h⊢;simp only[if_true]at h⊢;rcases hrt:s.runT P w #[]with⟨r,af⟩;have O:s.run P w=r:=by rw[<-cN P s w #[],hrt]
 rw[O]at hr;rw[hrt]at h
 cases r with
 |ok n wn=>
  obtain⟨gE,n',ab,es₁,e1,e2,e3,e4,_,e6,e7⟩:=hr;rw[e1];simp only[bp]at h⊢
  cases e3 with
  |comm bl sh hq hc=>cases h
  |spawn ac hd=>
   rename_i d d';dsimp only at h⊢
   have key:∀(X:Array Event)(c:Prop)[Decidable c] (A B C:GStep),cL X (if c then A else B)=C->(c/\cL X A=C)\/(¬c/\cL X B=C):=by
    intro X c _ A B C hh;split at hh
    .exact .inl ⟨‹_›,hh⟩
    .exact .inr ⟨‹_›,hh⟩
   rcases key _ _ _ _ _ h with⟨_,h⟩|⟨hc,h⟩
   .simp[bE,bM,cL]at h
   .have ad:¬((P.follows .goNilFatal&&(d'.target matches .nil)&&d'.args.isEmpty&&fr'.noResult P)=true):=by
     rw[Ah hd,Jg hd,JR hS.rX];exact hc
    have hf:=(hS.rX.mono e2).finish (.undef gE);have ae:=hS.set e2 hf.1 hf.2.1 hf.2.2 (iY ..) (km ..);obtain⟨rfl,rfl,rfl,_⟩:=h;exact⟨_,_,d,gE,_,_,d',ab,_,rfl,rfl,(congrArg _ (if_neg ad)).trans rfl,e2.kK▸ac,e2,ae,hd,e4,e6,ww e7⟩
  |recover=>
   obtain⟨fn,tm,td,df,md,kd,rd⟩:=fr
   cases rd with
   |none=>
    revert h;generalize b7 _ cs=p;intro h;cases p<;>cases h
   |some l=>
    dsimp only at h;rw[if_pos hE.TW]at h;revert h;generalize b7 _ cs=p;intro h;cases p<;>cases h
  |_=>cases h
 |halt x wn=>
  cases x with
  |panic v=>cases h
  |stuck y=>cases h
  |throw y=>cases h
  |unsupported u=>
   rcases Y _ _ O with⟨v,U⟩|U
   .cases U
   .cases u<;>first|exact U.elim|cases h
  |_=>
   rcases Y _ _ O with⟨v,U⟩|U
   .cases U
   .exact U.elim
end
end
section
open Go.Conc
variable {fr fr':Frame} {cs cs':List Frame}
inductive lI:GStep->Prop
 |go (g w es):lI (.go g w es)
 |ended (o w es):lI (.ended o w es)
theorem lI.after{s:GStep}(h:lI s)(X:Array Event):lI (cL X s):=by
 cases h with
 |go g w es=>exact .go ..
 |ended o w es=>exact .ended ..
section
variable {P:Program} {m:Ren} {T:List Frame} {gl:Nat->Prop} {st:Bool}
def QR(P:Program)(m:Ren)(T:List Frame)(r r':GStep)(w':World):Prop:=
 (∃gE X X' fr cs fr' cs' s s' w₁ O,r=cL X (c8 P true fr cs none s w₁)/\r'=cL X' (c8 P true fr' cs' none s' O)/\m.Le gE/\wN P gE/\gX P gE T (fr::cs) (fr'::cs')/\nL P (ki P) gE s s'/\WR gE w₁ O/\Al w₁ O/\jj m gE w' O/\∀e∈X',qY gE e)\/lI r
theorem TH{u:Frame}{d:List Frame}{x:World}{g:Frame}{c:List Frame}{O:World}{e:Array Event}(h:GStep.go {frame:=u,callers:=d,status:=.running,dying:=none} x=.go (G g c) O e):O=x/\∀y,∃U,GStep.go {frame:=u,callers:=d,status:=.running,dying:=none} y=.go (G g c) y U:=by
 simp only[GStep.go.injEq]at h;obtain⟨Y,rfl,_⟩:=h;exact⟨rfl,λy=>⟨#[],by rw[Y]⟩⟩
theorem Eg(fr:Frame)(c:Frame)(cs:List Frame)(v:Value):∀x g d O e,b4 P true fr (c::cs) none v x=.go (G g d) O e->O=x/\∀y,∃U,b4 P true fr (c::cs) none v y=.go (G g d) y U:=by
 intro x g d O e h;unfold b4 at h⊢;cases Y:fr.kind<;>rw[Y]at h<;>dsimp only at h⊢ <;> simp only[GStep.go.injEq]at h<;>obtain⟨h1,rfl,_⟩:=h<;>exact⟨rfl,λy=>⟨#[],by rw[h1]⟩⟩
theorem DX(U:gX P m T (fr::cs) (fr'::cs')):∃c O,cs=c::O:=by cases U<;>exact⟨_,_,rfl⟩
theorem R6(g:Frame)(c:List Frame)(w:World):rC P (.go {frame:=g,callers:=c,status:=.running,dying:=none} w):=.go g c w _
theorem Ck(fr c:Frame)(cs:List Frame)(v:Value)(w:World):rC P (b4 P true fr (c::cs) none v w):=by
 unfold b4;cases fr.kind<;>exact R6 ..
theorem QR.direct(U:wN P m)(Y:gX P m T (fr::cs) (fr'::cs')){s s':Sem Go.Next}(hs:nL P (ki P) m s s'){w w':World}(hw:WR m w w')(O:Al w w'):QR P m T (c8 P true fr cs none s w) (c8 P true fr' cs' none s' w') w':=
 .inl ⟨m,#[],#[],fr,cs,fr',cs',s,s',w,w',(pI _).symm,(pI _).symm,.refl m,U,Y,hs,hw,O,.refl m w',by simp⟩
theorem tc(fr c:Frame)(cs:List Frame)(v:Value)(w:World):lI (b4 P true fr (c::cs) none v w):=by
 unfold b4;cases fr.kind<;>exact .go ..
theorem vh{gE m₂:Ren}(O:gE.Le m₂){X Y:Array Event}(U:∀e∈X,qY gE e)(hY:∀e∈Y,qY m₂ e):∀e∈X++Y,qY m₂ e:=λe he=>(bv.1 he).elim (λx=>(U e x).mono O) (hY e)
end
end
section
open Go.Conc
variable {k:Array CommCase} {es:Array Event} {b:Bool} {sh:CommShape} {fr:Frame} {g:Goroutine} {cs:List Frame} {s:Sem Go.Next} {w w₁:World}
def Ge(P:Program)(s:World->GStep)(w:World)(g:Goroutine)(k:Array CommCase)(b:Bool)(sh:CommShape)(w₁:World):Prop:=
 w.drawn<=w₁.drawn/\w₁.tape=w.tape/\∀τ,xi τ w w₁->∃es,s (tp w τ)=.comm g k b sh (tp w₁ τ) es
section
variable {P:Program} {m:Ren} {T:List Frame} {gl:Nat->Prop} {st:Bool}
theorem VJ{r:GStep}(O:lI r)(h:r=.comm g k b sh w es){X:Prop}:X:=by
 rw[h]at O;cases O
theorem IQ{X:Array Event}{s:GStep}(h:cL X s=.comm g k b sh w es):∃O,s=.comm g k b sh w O:=by
 cases s<;>simp[cL]at h;obtain⟨rfl,rfl,rfl,rfl,rfl,_⟩:=h;exact⟨_,rfl⟩
theorem BE(aa:P.follows .rangeFuncRecover=true)(ac:∀n Y,s.run P w=.ok n Y->∃m n',ki P m n n')(ab:∀x Y,s.run P w=.halt x Y->(∃v,x=.panic v)\/mU x)
  (h:c8 P true fr cs none s w=.comm g k b sh w₁ es):g=G fr cs/\s.run P w=.ok (.comm k b sh) w₁:=by
 rcases hrt:s.runT P w _ with⟨r,ad⟩;have O:s.run P w=r:=by rw[<-cN P s w _,hrt]
 unfold c8 at h;rw[hrt]at h;rw[O]
 cases r with
 |ok n Y=>
  obtain⟨m,n',hn⟩:=ac n Y O
  cases hn with
  |comm bl sh hq hc=>
   obtain⟨rfl,rfl,rfl,rfl,rfl,_⟩:=h;exact⟨rfl,rfl⟩
  |spawn ae hd=>
   have key:∀(X:Array Event)(c:Prop)[Decidable c] (A B C:GStep),cL X (if c then A else B)=C->(c/\cL X A=C)\/(¬c/\cL X B=C):=by
    intro X c _ A B C hh;split at hh
    .exact .inl ⟨‹_›,hh⟩
    .exact .inr ⟨‹_›,hh⟩
   rcases key _ _ _ _ _ h with⟨_,h⟩|⟨hc,h⟩
   .simp[bE,bM,cL]at h
   .simp[cL]at h
  |recover=>
   obtain⟨fn,tm,td,df,md,kd,rd⟩:=fr
   cases rd with
   |none=>
    revert h;generalize b7 _ cs=p;intro h;cases p<;>cases h
   |some l=>
    dsimp only at h;rw[if_pos aa]at h;revert h;generalize b7 _ cs=p;intro h;cases p<;>cases h
  |_=>cases h
 |halt x Y=>
  cases x with
  |panic v=>cases h
  |stuck y=>cases h
  |throw y=>cases h
  |unsupported u=>
   rcases ab _ _ O with⟨v,U⟩|U
   .cases U
   .cases u<;>first|exact U.elim|cases h
  |_=>
   rcases ab _ _ O with⟨v,U⟩|U
   .cases U
   .exact U.elim
theorem JY(O:P.follows .rangeFuncRecover=true)(hl:Loc P s w)(Y:∀n wn,s.run P w=.ok n wn->∃m n',ki P m n n')(aa:∀x wn,s.run P w=.halt x wn->(∃v,x=.panic v)\/mU x)
  (h:c8 P true fr cs none s w=.comm g k b sh w₁ es):Ge P (c8 P true fr cs none s) w g k b sh w₁:=by
 obtain⟨rfl,hr⟩:=BE O Y aa h;rcases hl with⟨x,lV,U,h2⟩|⟨U,h2,h3⟩
 .rw[hr]at U;cases U
 .rw[hr]at U h2 h3;refine⟨U,h2,λτ ab=>?_⟩;have h4:=h3 τ ab;obtain⟨e',e⟩:=jL h4;unfold c8;simp only[if_true,e];exact⟨_,rfl⟩
end
end
section
open Go.Conc
variable {k:Array CommCase} {b:Bool} {sh:CommShape} {iH:Frame} {iI:List Frame} {w':World}
structure PC(P:Program)(r:GStep):Prop where
 go:∀{g c w es},r≠.go (G g c) w es
 outs:rC P r
 plain:lI r
theorem PC.after{P:Program}{r:GStep}(h:PC P r)(X:Array Event):PC P (cL X r):=⟨λe=>(vy e).elim λ_ e=>h.go e,h.outs.after X,h.plain.after X⟩
theorem PC.ended{P:Program}(o:Outcome)(w:World)(es:Array Event):PC P (.ended o w es):=⟨λe=>(by cases e),.ended ..,.ended ..⟩
theorem PC.throw{P:Program}(fr:Frame)(y:String)(w:World):PC P (bE fr y w):=⟨nofun,uW ..,.go ..⟩
inductive yP(P:Program)(T:List Frame)(main':Bool)(ok:Prop):Ren->(World->GStep)->(World->GStep)->Prop
 |stay {m f f' g g' cs cs'}:gX P m T (g::cs) (g'::cs')->(∀x,f x=.go (G g cs) x)->(∀x,f' x=.go (G g' cs') x)->yP P T main' ok m f f'
 |low {m f f' g cs}:(ok->False)->(∀x,f x=.go (G g cs) x)->yP P T main' ok m f f'
 |bad {m f f'}:(∀x x',WR m x x'->PC P (f x))->yP P T main' ok m f f'
 |app {m f f' fr fr' cs cs' s s'}:wN P m->gX P m T (fr::cs) (fr'::cs')->nL P (ki P) m s s'->(∀x,f x=c8 P true fr cs none s x)->(∀x,f' x=c8 P true fr' cs' none s' x)->yP P T main' ok m f f'
 |ret {m f f' fr fr' cs cs' v v'}:gX P m T (fr::cs) (fr'::cs')->(ok->cs=[door P]->fr.roundOf=none->False)->VR m v v'->(∀x,f x=b4 P true fr cs none v x)->(∀x,f' x=b4 P main' fr' cs' none v' x)->yP P T main' ok m f f'
 |run {m f f'} {α β:Type} {RA:Ren->α->β->Prop} {t t'} {E:Result α->Array Event->Array Event} {E':Result β->Array Event->Array Event} {K:Result α->GStep} {K':Result β->GStep}:gC P RA m t t'->
   (∀x r es,t.runT P x #[]=(r,es)->f x=cL (E r es) (K r))->(∀x r es,t'.runT P x #[]=(r,es)->f' x=cL (E' r es) (K' r))->(∀gE r es,(∀e∈es,qY gE e)->∀e∈E' r es,qY gE e)->
   (∀gE a a',m.Le gE->RA gE a a'->yP P T main' ok gE (λw=>K (.ok a w)) (λw=>K' (.ok a' w)))->
   (∀gE v v',m.Le gE->VR gE v v'->yP P T main' ok gE (λw=>K (.halt (.panic v) w)) (λw=>K' (.halt (.panic v') w)))->
   (∀x w,mU x->PC P (K (.halt x w)))->yP P T main' ok m f f'
section
variable {P:Program} {m:Ren} {T:List Frame} {gl:Nat->Prop} {st main':Bool} {ok:Prop} {f f':World->GStep}
theorem yP.out(F:yP P T main' ok m f f')(aa:ok):∀{w w':World},WR m w w'->Al w w'->∀{iH:Frame}{iI:List Frame}{w₁:World}{es:Array Event},f w=.go (G iH iI) w₁ es->qf P m T (f' w') w' iH iI w₁:=by
 induction F with
 |stay hg h h'=>intro w w' Y O iH iI w₁ es e; rw[h]at e; rw[h']; exact still Y hg e
 |low hn h=>exact(hn aa).elim
 |bad h=>intro w w' Y O iH iI w₁ es e; exact absurd e (h w w' Y).go
 |app hE hS hs h h'=>intro w w' Y O iH iI w₁ es e; rw[h]at e; rw[h']; exact N6 hE hS hs Y O e
 |ret hS hn hv h h'=>
  intro w w' Y O iH iI w₁ es e;have:=SE (main':=main') (X:=#[]) (X':=#[]) (.refl _) hS (hn aa) hv Y (.refl _ w') (by simp) (by rw[pI,<-h]; exact e);rw[pI]at this;rw[h'];exact this
 |@run m f f' α β RA t t' E E' K K' ht h h' hE _ _ ab ac ad=>
  intro w w' Y O iH iI w₁ es e;have U:=ht.run w w' #[] Y (.inl O);rw[<-cN P _ w _]at U;rcases hrt:t.runT P w _ with⟨r,af⟩;rw[hrt]at U;rw[h _ _ _ hrt]at e;obtain⟨ag,e⟩:=vy e
  cases r with
  |ok a wn=>
   obtain⟨gE,a',ae,es₁,g1,g2,g3,g4,g5,g6,g7⟩:=U;rw[h' _ _ _ g1];exact qf.after g2 g6 (hE _ _ _ (by simpa using g7)) (ac gE a a' g2 g3 g4 (g5 O) e)
  |halt x wn=>
   cases x with
   |panic v=>
    obtain⟨gE,a',ae,es₁,g1,g2,g3,g4,g5,g6,g7⟩:=U;rw[h' _ _ _ g1];exact qf.after g2 g6 (hE _ _ _ (by simpa using g7)) (ad gE v a' g2 g3 g4 (g5 O) e)
   |_=>refine absurd e (ab _ _ ?_).go; exact U
def Lg(R:World->Array Event->GStep)(s:World->GStep)(w w₁:World):Prop:=
 w.drawn<=w₁.drawn/\w₁.tape=w.tape/\∀τ,xi τ w w₁->∃es,s (tp w τ)=R (tp w₁ τ) es
structure Kind(P:Program)(R:World->Array Event->GStep):Prop where
 off:∀{X s w es},cL X s=R w es->∃e,s=R w e
 on:∀X w es,∃e,cL X (R w es)=R w e
 bad:∀{r w es},PC P r->r≠R w es
 go:∀{g c x w es},GStep.go (G g c) x=R w es->w=x/\∀y,∃e,GStep.go (G g c) y=R y e
 ret:∀{fr c cs v x w es},b4 P true fr (c::cs) none v x=R w es->w=x/\∀y,∃e,b4 P true fr (c::cs) none v y=R y e
 app:∀{fr cs s w w₁ es},Loc P s w->(∀n wn,s.run P w=.ok n wn->∃m n',ki P m n n')->(∀x wn,s.run P w=.halt x wn->(∃v,x=.panic v)\/mU x)->c8 P true fr cs none s w=R w₁ es->Lg R (c8 P true fr cs none s) w w₁
theorem yP.loc(F:yP P T main' ok m f f'){R:World->Array Event->GStep}(k:Kind P R):∀{w w':World},WR m w w'->∀{w₁:World}{es:Array Event},f w=R w₁ es->Lg R f w w₁:=by
 induction F with
 |stay _ h _|low _ h=>intro w w' U w₁ es e; rw[h]at e; obtain⟨rfl,q⟩:=k.go e; exact⟨cB _,rfl,λτ _=>by rw[h]; exact q _⟩
 |bad h=>intro w w' U w₁ es e; exact absurd e (k.bad (h w w' U))
 |app hE hS hs h h'=>
  intro w w' U w₁ es e;rw[h]at e;obtain⟨a,b,c⟩:=k.app (hs.loc w w' U) (hs.outs U).1 (hs.outs U).2 e;exact⟨a,b,λτ Y=>by rw[h]; exact c τ Y⟩
 |ret hS hn hv h h'=>
  obtain⟨c,ak,rfl⟩:=DX hS;intro w w' U w₁ es e;rw[h]at e;obtain⟨rfl,q⟩:=k.ret e;exact⟨cB _,rfl,λτ _=>by rw[h]; exact q _⟩
 |@run m f f' α β RA t t' E E' K K' ht h h' hE _ _ aa ab ac=>
  intro w w' U w₁ es e;obtain⟨ad,ae,af,_⟩:=align U;have O:=ht.run w ad #[] ae (.inl af);have hl:=ht.loc w w' U;obtain⟨al,ag⟩:=jL (P:=P) (s:=t) (w:=w) rfl;rw[h _ _ _ ag]at e;obtain⟨_,e⟩:=k.off e
  have key:∀{r:Result α}{wn:World},DM r=wn->Lg R (λw=>K (match r with|.ok a _=>.ok a w|.halt x _=>.halt x w)) wn w₁->(∀τ,Bc P t w τ r->t.run P (tp w τ)=match r with|.ok a _=>.ok a (tp wn τ)|.halt x _=>.halt x (tp wn τ))->t.run P w=r->SS P t w->Lg R f w w₁:=by
   rintro r wn rfl ⟨k1,k2,k3⟩ ah hr ⟨h1,h2,h3⟩;rw[hr]at h1 h2 h3;refine⟨cC h1 k1,k2.trans h2,λτ Y=>?_⟩;have ha:=ah τ (h3 τ λi x y=>Y i x (cA y k1));obtain⟨am,k4⟩:=k3 τ λi x y=>by rw[h2]; exact Y i (cC h1 x) y
   obtain⟨an,ai⟩:=jL ha;have k4:K _=R .. := k4;rw[h _ _ _ ai,k4];exact k.on ..
  rcases hl with⟨q,lV,h1,h2⟩|hl
  .rw[h1]at e;exact absurd e (k.bad (aa _ _ h2))
  .cases hq:t.run P w with
   |ok a wn=>
    rw[hq]at e O;obtain⟨gE,a',aj,es₁,g1,g2,g3,g4,_⟩:=O;exact key (r:=.ok a wn) rfl (ab gE a a' g2 g3 g4 e) (λ_ h=>h) hq hl
   |halt x wn=>
    rw[hq]at e O
    cases x with
    |panic v=>
     obtain⟨gE,a',aj,es₁,g1,g2,g3,g4,_⟩:=O;exact key (r:=.halt _ wn) rfl (ac gE v a' g2 g3 g4 e) (λ_ h=>h) hq hl
    |_=>refine absurd e (k.bad (aa _ _ ?_)); exact O
theorem yP.outs(F:yP P T main' ok m f f'):∀{w w':World},WR m w w'->rC P (f w):=by
 induction F with
 |stay _ h _|low _ h=>intro w w' U; rw[h]; exact .go ..
 |bad h=>exact λU=>(h _ _ U).outs
 |app hE hS hs h h'=>intro w w' U; rw[h]; exact JD hE.TW (hs.outs U).1 (hs.outs U).2
 |ret hS hn hv h h'=>obtain⟨c,ah,rfl⟩:=DX hS; intro w w' U; rw[h]; exact Ck ..
 |@run m f f' α β RA t t' E E' K K' ht h h' hE _ _ Y aa ab=>
  intro w w' U;obtain⟨ac,ad,ae,_⟩:=align U;have O:=ht.run w ac #[] ad (.inl ae);obtain⟨ai,af⟩:=jL (P:=P) (s:=t) (w:=w) rfl;rw[h _ _ _ af];refine rC.after ?_ _
  cases hq:t.run P w with
  |ok a wn=>rw[hq]at O; obtain⟨gE,a',ag,es₁,g1,g2,g3,g4,_⟩:=O; exact aa gE a a' g2 g3 g4
  |halt x wn=>
   rw[hq]at O
   cases x with
   |panic v=>obtain⟨gE,a',ag,es₁,g1,g2,g3,g4,_⟩:=O; exact ab gE v a' g2 g3 g4
   |_=>refine(Y _ _ ?_).outs; exact O
theorem QR.after{gE:Ren}{r r':GStep}{U:World}{X X':Array Event}(hl:m.Le gE)(hk:jj m gE w' U)(hX:∀e∈X',qY gE e)(h:QR P gE T r r' U):QR P m T (cL X r) (cL X' r') w':=by
 have aa:∀(X Y:Array Event)(s:GStep),cL X (cL Y s)=cL (X++Y) s:=λX Y s=>by cases s<;>simp[cL]
 rcases h with⟨m₂,Y,Y',fr,cs,fr',cs',s,s',w₁,O,rfl,rfl,h1,h2,h3,h4,h5,h6,h7,h8⟩|h
 .exact .inl ⟨m₂,_,_,fr,cs,fr',cs',s,s',w₁,O,aa ..,aa ..,hl.trans h1,h2,h3,h4,h5,h6,hk.trans hl h1 h7,vh h1 hX h8⟩
 .exact .inr (h.after _)
theorem yP.via(F:yP P T main' ok m f f'):∀{w w':World},WR m w w'->Al w w'->QR P m T (f w) (f' w') w':=by
 induction F with
 |stay _ h _|low _ h=>intro w w' Y U; rw[h]; exact .inr (.go ..)
 |bad h=>exact λY _=>.inr (h _ _ Y).plain
 |app hE hS hs h h'=>intro w w' Y U; rw[h,h']; exact QR.direct hE hS hs Y U
 |ret hS hn hv h h'=>obtain⟨c,af,rfl⟩:=DX hS; intro w w' Y U; rw[h]; exact .inr (tc ..)
 |@run m f f' α β RA t t' E E' K K' ht h h' hE _ _ aa ab ac=>
  intro w w' Y U;have O:=ht.run w w' #[] Y (.inl U);obtain⟨ag,ad⟩:=jL (P:=P) (s:=t) (w:=w) rfl;rw[h _ _ _ ad]
  cases hq:t.run P w with
  |ok a wn=>
   rw[hq]at O;obtain⟨gE,a',ae,es₁,g1,g2,g3,g4,g5,g6,g7⟩:=O;rw[h' _ _ _ g1];exact QR.after g2 g6 (hE _ _ _ (by simpa using g7)) (ab gE a a' g2 g3 g4 (g5 U))
  |halt x wn=>
   rw[hq]at O
   cases x with
   |panic v=>
    obtain⟨gE,a',ae,es₁,g1,g2,g3,g4,g5,g6,g7⟩:=O;rw[h' _ _ _ g1];exact QR.after g2 g6 (hE _ _ _ (by simpa using g7)) (ac gE v a' g2 g3 g4 (g5 U))
   |_=>refine .inr (lI.after (aa _ _ ?_).plain _); exact O
theorem sw{fr fr':Frame}{cs cs':List Frame}(O:fr.roundOf≠none)(hS:gX P m T (fr::cs) (fr'::cs')){l U:Nat}(hl:m.blk l=some U)(j:Option Code)(hj:∀c,j=some c->jn m.ok c){q Y:Outcome}
  (h:∀x,f x=cL (bH P fr.fn ((dJ l j).runT P x #[]).2) (match ((dJ l j).runT P x #[]).1 with|.ok v w=>b4 P true fr cs none v w|.halt _ w=>.ended q w))
  (h':∀x,f' x=cL (bH P fr'.fn ((dJ U j).runT P x #[]).2) (match ((dJ U j).runT P x #[]).1 with|.ok v w=>b4 P main' fr' cs' none v w|.halt _ w=>.ended Y w)):yP P T main' ok m f f':=
 .run (E:=λ_ es=>bH P _ es) (E':=λ_ es=>bH P _ es) (K:=λr=>match r with|.ok v w=>b4 P true fr cs none v w|.halt _ w=>.ended q w) (K':=λr=>match r with|.ok v w=>b4 P main' fr' cs' none v w|.halt _ w=>.ended Y w) (K9 (P:=P) hl hj)
  (λx r es e=>by rw[h,e]) (λx r es e=>by rw[h',e]) (λ_ _ _ h=>pG h) (λgE a a' hm ha=>.ret (hS.mono hm) (λ_ _ h=>O h) ha (λ_=>rfl) (λ_=>rfl)) (λ_ _ _ _ _=>.bad λ_ _ _=>.ended ..) (λ_ _ _=>.ended ..)
theorem pM{fr:Frame}{cs:List Frame}{ops:Array Oper}{i:Nat}{t:List Nat}{k:List Item}{o:Oper}(O:fr.todo=.inRegion ops (i::t)::k)(U:ops[i]?=some o)(Y:dP o (bK ops fr.tmps)=true)(x:World) :
  c9 P b true fr cs none x=match fr.roundOf,o.op with
   |some l,.defer c=>c8 P true fr cs none (do Instr.deferInRound l (<-bQ fr.eval c o.type); pure .skip) x
   |_,_=>c8 P true fr cs none (execOp fr.eval o) x:=by
 unfold c9;simp only[O,U,dL,dM];rw[if_pos Y];unfold bx.oper;simp only[dn,O,U];rfl
theorem Na(hX:nW P m gl st){fr fr':Frame}{cs cs':List Frame}(hS:gX P m T (fr::cs) (fr'::cs')):yP P T main' ok m (c9 P true true fr cs none) (c9 P main' true fr' cs' none):=by
 have hF:=hS.rX;have ht:=hF.todo;have af:=hF.round;have ap:=hF.fn;obtain⟨fn,tm,td,df,md,kd,rd⟩:=fr;obtain⟨O,U,aq,ab,ad,ac,Y⟩:=fr';simp only at ht af ap;subst ap;have aa:∀{k k':List Item},gW (ml m) k k'->gX P m T (⟨O,tm,k,df,md,kd,rd⟩::cs) (⟨O,U,k',ab,ad,ac,Y⟩::cs'):=λhk=>hS.set (.refl m) (Jy hF hk) rfl rfl rfl rfl;have ak:gX P m T (⟨O,tm,td,df,.returning,kd,rd⟩::cs) (⟨O,U,aq,ab,.returning,ac,Y⟩::cs'):=hS.set (.refl m) (T5 hF .returning) rfl rfl rfl rfl;have am:∀x,gR m.je gl x->VR m (dh ⟨O,tm,td,df,md,kd,rd⟩ x) (dh ⟨O,U,aq,ab,ad,ac,Y⟩ x):=λx hx=>hF.eval hX.qT x hx
 cases ht with
 |nil=>
  cases af with
  |none=>exact .stay ak (λ_=>rfl) (λ_=>rfl)
  |some hl=>exact sw (by simp) hS hl none (λ_ h=>by cases h) (λ_=>rfl) (λ_=>rfl)
 |cons hi hk=>
  rename_i k k'
  cases hi with
  |G1 y=>exact .bad λ_ _ _=>.ended _ _ _
  |oL y=>exact .stay (aa (.cons (.G1 y) (.cons (.oL y) hk))) (λ_=>rfl) (λ_=>rfl)
  |inBlock i=>exact .stay (aa hk) (λ_=>rfl) (λ_=>rfl)
  |inScope c hc=>exact .stay (aa hk) (λ_=>rfl) (λ_=>rfl)
  |inLoop c hc=>exact .stay (aa (.cons (.code c hc) (.cons (.inLoop c hc) hk))) (λ_=>rfl) (λ_=>rfl)
  |inRangeFunc hl=>exact .bad λ_ _ _=>.ended _ _ _
  |beginRound=>
   refine .app hX.env hS (s:=do rd.elim (stuck "beginRound: no round") dK; pure .skip) (s':=do Y.elim (stuck "beginRound: no round") dK; pure .skip) ?_ (λ_=>rfl) (λ_=>rfl)
   cases af with
   |none=>exact .base (.gF trivial)
   |some hl=>exact V4 (E1 hl)
  |endRangeFunc hl=>
   rename_i l l'
   refine .run (Ms (P:=P) hl) (E:=λ_ es=>bH P O es) (E':=λ_ es=>bH P O es)
    (K:=λr=>match r with|.ok ah w=>.go {frame:=⟨O,tm,(ah.map Item.code).toList++k,df,md,kd,rd⟩,callers:=cs,status:=.running,dying:=none} w|.halt (.panic v) w=>.go {frame:=dk ⟨O,tm,.endRangeFunc l::k,df,md,kd,rd⟩ [{v,recovered:=false}],callers:=cs,status:=.running,dying:=none} w|.halt _ w=>.ended (.stuck "range over a function: no such loop" (di P ⟨O,tm,.endRangeFunc l::k,df,md,kd,rd⟩)) w)
    (K':=λr=>match r with|.ok ah w=>.go {frame:=⟨O,U,(ah.map Item.code).toList++k',ab,ad,ac,Y⟩,callers:=cs',status:=.running,dying:=none} w|.halt (.panic v) w=>.go {frame:=dk ⟨O,U,.endRangeFunc l'::k',ab,ad,ac,Y⟩ [{v,recovered:=false}],callers:=cs',status:=.running,dying:=none} w|.halt _ w=>.ended (.stuck "range over a function: no such loop" (di P ⟨O,U,.endRangeFunc l'::k',ab,ad,ac,Y⟩)) w)
    (λx r es e=>by unfold c9; dsimp only; rw[e]; rfl) (λx r es e=>by unfold c9; dsimp only; rw[e]; rfl) (λ_ _ _ h=>pG h) ?_ ?_ ?_
   .rintro gE a b hm ⟨rfl,ha⟩;refine .stay (hS.set hm (g:=⟨O,tm,_,df,md,kd,rd⟩) (g':=⟨O,U,_,ab,ad,ac,Y⟩) (Jy (hF.mono hm) (gW.append ?_ (hk.mono λ_ _ x=>x.mono hm))) rfl rfl rfl rfl) (λ_=>rfl) (λ_=>rfl)
    cases a with
    |none=>exact .nil
    |some c=>exact .cons (.code c (ha c rfl)) .nil
   .intro gE v v' hm hv;have hf:=(hF.mono hm).raise (vs:=[{v,recovered:=false}]) (vs':=[{v:=v',recovered:=false}]) (.cons ⟨hv,rfl,rfl⟩ .nil);exact .stay (hS.set hm hf.1 hf.2.1 hf.2.2 (q9 _ _) (wm _ _)) (λ_=>rfl) (λ_=>rfl)
   .intro x w hx;cases x<;>first|exact hx.elim|exact .ended _ _ _
  |inRegion ops t ho=>
   cases t with
   |nil=>exact .stay (aa hk) (λ_=>rfl) (λ_=>rfl)
   |cons i t=>
    have hy:bK ops U=bK ops tm:=funext (ou ops hF.tmps);have hf:=hF.finish (.undef m);have al:=hS.set (.refl m) hf.1 hf.2.1 hf.2.2 (iY _ _) (km _ _)
    cases ae:ops[i]? with
    |none=>exact .stay al (λx=>by unfold c9; dsimp only; rw[ae]; rfl) (λx=>by unfold c9; dsimp only; rw[ae]; rfl)
    |some o=>
     by_cases ai:dP o (bK ops tm)=true
     .have aj:dP o (bK ops U)=true:=by rw[hy]; exact ai
      have an:=hX.ops o (ho o (by rw[<-Array.getElem?_toList]at ae; exact cW ae));have ar:=Gz hX.env hX.strict hX.kK am (λc=>⟨rfl,rfl⟩) o an
      cases af with
      |none=>exact .app hX.env hS ar (λx=>by rw[pM rfl ae ai]) (λx=>by rw[pM rfl ae aj])
      |some hl=>
       obtain⟨od,oo,ot,op,oa,og⟩:=o;cases oo<;>first|exact .app hX.env hS ar (λx=>pM rfl ae ai x) (λx=>pM rfl ae aj x)|skip
       rename_i c;refine .app hX.env hS (.base ?_) (λx=>pM rfl ae ai x) (λx=>pM rfl ae aj x);refine gJ (Nq am ⟨an.1,?_⟩ _) λm' d d' aw hd=>gJ (BD (aw.blk _ _ hl) hd) λ_ _ _ _ _=>.pure .skip;have h2:=an.2;obtain⟨cc,ca,ct⟩:=c;cases cc<;>first|trivial|exact⟨h2.1,hX.kK h2.2⟩|exact h2.elim
     .refine .stay al (λx=>?_) (λx=>?_)
      all_goals
       unfold c9;dsimp only;rw[ae];simp only[dL,dM]
       try rw[hy]
       rw[if_neg ai];rfl
  |code c hc=>
   cases c with
   |skip=>exact .stay (aa hk) (λ_=>rfl) (λ_=>rfl)
   |label l=>exact .stay (aa hk) (λ_=>rfl) (λ_=>rfl)
   |ret=>
    cases af with
    |none=>exact .stay ak (λ_=>rfl) (λ_=>rfl)
    |some hl=>exact sw (by simp) hS hl (some .ret) (λ_ h=>by cases h; trivial) (λ_=>rfl) (λ_=>rfl)
   |seq x y=>exact .stay (aa (.cons (.code x hc.1) (.cons (.code y hc.2) hk))) (λ_=>rfl) (λ_=>rfl)
   |cond c x y=>
    have hv:=am c (by have:=hc.1; cases c<;>first|exact this|exact this.elim);generalize hp:dh _ c=p at hv;generalize ag:dh _ c=p' at hv;cases hv<;>first|exact .bad (λx _ _=>by unfold c9; dsimp only; rw[hp]; exact .ended _ _ _)|skip
    rename_i t;refine .stay (aa (.cons (.code (if t then x else y) ?_) hk)) (λx=>by unfold c9; dsimp only; rw[hp]; rfl) (λx=>by unfold c9; dsimp only; rw[ag]; rfl);cases t
    .exact hc.2.2
    .exact hc.2.1
   |block i x=>exact .stay (aa (.cons (.code x hc) (.cons (.inBlock i) hk))) (λ_=>rfl) (λ_=>rfl)
   |loop x=>exact .stay (aa (.cons (.code x hc) (.cons (.inLoop x hc) hk))) (λ_=>rfl) (λ_=>rfl)
   |scope x=>exact .stay (aa (.cons (.code x hc) (.cons (.inScope x hc) hk))) (λ_=>rfl) (λ_=>rfl)
   |exit i=>
    have he:=AC i hk;generalize hp:exitTo i k=p at he;generalize ag:exitTo i k'=p' at he
    cases he with
    |some ao=>exact .stay (aa ao) (λx=>by unfold c9; dsimp only; rw[hp]; rfl) (λx=>by unfold c9; dsimp only; rw[ag]; rfl)
    |none=>
     cases af with
     |none=>exact .bad (λx _ _=>by unfold c9; dsimp only; rw[hp]; exact .ended _ _ _)
     |some hl=>exact sw (by simp) hS hl (some (.exit i)) (λ_ h=>by cases h; trivial) (λx=>by unfold c9; dsimp only; rw[hp]; rfl) (λx=>by unfold c9; dsimp only; rw[ag]; rfl)
   |goto l=>
    have he:=Ar l hk;generalize hp:gotoIn l k=p at he;generalize ag:gotoIn l k'=p' at he
    cases he with
    |some ao=>exact .stay (aa ao) (λx=>by unfold c9; dsimp only; rw[hp]; rfl) (λx=>by unfold c9; dsimp only; rw[ag]; rfl)
    |none=>
     cases af with
     |none=>exact .bad (λx _ _=>by unfold c9; dsimp only; rw[hp]; exact .ended _ _ _)
     |some hl=>exact sw (by simp) hS hl (some (.goto l)) (λ_ h=>by cases h; trivial) (λx=>by unfold c9; dsimp only; rw[hp]; rfl) (λx=>by unfold c9; dsimp only; rw[ag]; rfl)
   |rangeFunc f ps a x=>
    refine .run (FN (P:=P) (fn:=O) (ps:=ps) hF.tmps hc.2.1 hc.2.2 af) (E:=λ_ es=>bH P O es) (E':=λ_ es=>bH P O es)
     (K:=λr=>match r with|.ok (l,mark) w=>c8 P true ⟨O,tm,.inRangeFunc l::k,mark++df,md,kd,rd⟩ cs none (do let d <-bQ (dh ⟨O,tm,.inRangeFunc l::k,mark++df,md,kd,rd⟩) {callee:=.value f,args:=#[.const (.func (.yield l) #[] #[])],argTypes:=#[]} 0; invoke d.target d.args) w|.halt _ w=>.ended (.stuck "range over a function: no such loop" (di P ⟨O,tm,.code (.rangeFunc f ps a x)::k,df,md,kd,rd⟩)) w)
     (K':=λr=>match r with|.ok (l,mark) w=>c8 P true ⟨O,U,.inRangeFunc l::k',mark++ab,ad,ac,Y⟩ cs' none (do let d <-bQ (dh ⟨O,U,.inRangeFunc l::k',mark++ab,ad,ac,Y⟩) {callee:=.value f,args:=#[.const (.func (.yield l) #[] #[])],argTypes:=#[]} 0; invoke d.target d.args) w|.halt _ w=>.ended (.stuck "range over a function: no such loop" (di P ⟨O,U,.code (.rangeFunc f ps a x)::k',ab,ad,ac,Y⟩)) w)
     (λx r es e=>by unfold c9; dsimp only; rw[e]; rfl) (λx r es e=>by unfold c9; dsimp only; rw[e]; rfl) (λ_ _ _ h=>pG h) ?_ (λ_ _ _ _ _=>.bad λ_ _ _=>.ended _ _ _) (λ_ _ _=>.ended _ _ _)
    rintro gE ⟨l,mk⟩ ⟨l',mk'⟩ hm ⟨au,ax⟩
    have av:jx gE ⟨O,tm,.inRangeFunc l::k,mk++df,md,kd,rd⟩ ⟨O,U,.inRangeFunc l'::k',mk'++ab,ad,ac,Y⟩:=
     ⟨rfl,hF.tmps.mono hm,.cons (.inRangeFunc au) (hk.mono λ_ _ y=>y.mono hm),ax.append ((hF.mono hm).defers),(hF.mono hm).mode,(hF.mono hm).round⟩
    refine .app (hX.mono hm).env (hS.set hm av rfl rfl rfl rfl) (.base (gJ (rG (av.eval (hX.mono hm).qT f (by have:=hc.1; cases f<;>first|exact this|exact this.elim)) (by simpa[dh]using io.one (VR.Lh (Oc.yield au) (.nil gE) (.nil gE)))) λm' d d' hl hd=>?_)) (λ_=>rfl) (λ_=>rfl);exact th ((hX.mono hm).env.mono hl) hd.1.target hd.2 hd.1.args
   |region i ops d=>
    cases d with
    |false=>exact .stay (aa (.cons (.inRegion ops _ hc) hk)) (λ_=>rfl) (λ_=>rfl)
    |true=>
     refine .run (RA:=yY) (t:=choose (.order O i)) (t':=choose (.order O i)) (E:=λ_ _=>#[]) (E':=λ_ _=>#[])
      (K:=λr=>match r with|.ok t w=>.go {frame:=⟨O,tm,.inRegion ops (dQ (P.follows .mixedOrders) ops t)::k,df,md,kd,rd⟩,callers:=cs,status:=.running,dying:=none} w|.halt _ w=>.ended (.stuck "order" (di P ⟨O,tm,.code (.region i ops true)::k,df,md,kd,rd⟩)) w)
      (K':=λr=>match r with|.ok t w=>.go {frame:=⟨O,U,.inRegion ops (dQ (P.follows .mixedOrders) ops t)::k',ab,ad,ac,Y⟩,callers:=cs',status:=.running,dying:=none} w|.halt _ w=>.ended (.stuck "order" (di P ⟨O,U,.code (.region i ops true)::k',ab,ad,ac,Y⟩)) w)
      (.choose λn=>.pure rfl) (λx r es e=>?_) (λx r es e=>?_) (λ_ _ _ _ e h=>by simp at h) ?_ (λ_ _ _ _ _=>.bad λ_ _ _=>.ended _ _ _) (λ_ _ _=>.ended _ _ _)
     .have q:(choose (.order O i)).run P x=r:=by rw[<-cN P _ x #[],e]
      rw[pI,<-q];rfl
     .have q:(choose (.order O i)).run P x=r:=by rw[<-cN P _ x #[],e]
      rw[pI,<-q];rfl
     .rintro gE a b hm rfl;exact .stay (hS.set hm (g:=⟨O,tm,_,df,md,kd,rd⟩) (g':=⟨O,U,_,ab,ad,ac,Y⟩) (Jy (hF.mono hm) (.cons (.inRegion ops _ (hm.ok▸hc)) (hk.mono λ_ _ y=>y.mono hm))) rfl rfl rfl rfl) (λ_=>rfl) (λ_=>rfl)
   |refuse y=>exact hc.elim
theorem yP.eq{g g':World->GStep}(F:yP P T main' ok m f f')(h:∀x,g x=f x)(O:∀x,g' x=f' x):yP P T main' ok m g g':=by rw[funext h,funext O]; exact F
theorem qO(hX:nW P m gl st){fr fr':Frame}{cs cs':List Frame}(hS:gX P m T (fr::cs) (fr'::cs')){d d':Deferred}(hd:DR m d d')(hn:∀x y z,d.target≠.builtin .close x y z):yP P T main' ok m (bC P fr cs none d) (bC P fr' cs' none d'):=by
 have aa:gC P (ki P) m (invoke d.target d.args) (invoke d'.target d'.args):=th hX.env hd.target (by
  intro bb x y z e;have O:=hd.target;rw[e]at O;revert O;generalize d'.target=t';intro O;cases O
  exact hn x y z e) hd.args
 have U:=hS.rX.mode;have ab:=Ah hd
 have ac:((fr'.mode matches .panicking _):Bool)=(fr.mode matches .panicking _):=by
  revert U;generalize fr.mode=q;generalize fr'.mode=q';intro h;cases h<;>rfl
 by_cases hc:((d.target matches .nil)&&(fr.mode matches .panicking _))=true
 .exact .bad λx _ _=>by rw[show bC P fr cs none d x=_ from if_pos hc]; exact .ended _ _ _
 .refine .run aa (E:=λr es=>bH P fr.fn (match r with|.halt .blocked _|.halt .waiting _=>#[]|_=>es)) (E':=λr es=>bH P fr'.fn (match r with|.halt .blocked _|.halt .waiting _=>#[]|_=>es)) (λx r es e=>by rw[show bC P fr cs none d x=_ from if_neg hc,e]; rfl)
   (λx r es e=>by rw[show bC P fr' cs' none d' x=_ from if_neg λh=>hc ((congr (congrArg and ab) ac).symm.trans h),e]; rfl) (λgE r es h=>pG (by split<;>simp_all)) ?_ ?_ ?_
  .intro gE a a' hm ha;have hs:=hS.mono hm
   cases ha with
   |enter hf Y ha=>exact .stay (hs.push (EQ ((hX.env.mono hm).calls _ hf) Y ha .deferred .deferred) rfl (.inr rfl)) (λ_=>rfl) (λ_=>rfl)
   |round hl O ha Y=>
    rename_i l l' f t t' a c;have ad:jx gE (dl l f t a c .deferred) (dl l' f t' a c .deferred):=⟨rfl,O,.cons (.code _ ha) (.cons .beginRound (.cons (.code _ Y) .nil)),.nil,.run,.some hl⟩;exact .stay (hs.push ad rfl (.inr rfl)) (λ_=>rfl) (λ_=>rfl)
   |recover=>
    have O:=w9 hs;generalize hq:fr.mode=q at U;generalize ae:fr'.mode=q' at U
    cases U with
    |run|panicking=>exact .stay hs (λ_=>rfl) (λ_=>rfl)
    |returning=>
     generalize hp:b7 _ cs=p at O;generalize af:b7 _ cs'=p' at O
     cases O with
     |none=>exact .stay hs (λ_=>rfl) (λ_=>rfl)
     |some hx=>exact .stay hx.2 (λ_=>rfl) (λ_=>rfl)
   |_=>exact .stay hs (λ_=>rfl) (λ_=>rfl)
  .intro gE v v' hm hv;have hf:=(hS.rX.mono hm).raise (vs:=[{v,recovered:=false}]) (vs':=[{v:=v',recovered:=false}]) (.cons ⟨hv,rfl,rfl⟩ .nil);exact .stay (hS.set hm hf.1 hf.2.1 hf.2.2 (q9 ..) (wm ..)) (λ_=>rfl) (λ_=>rfl)
  .intro x w hx
   cases x with
   |throw y=>exact .throw ..
   |stuck y=>exact .ended ..
   |unsupported u=>exact .ended ..
   |_=>exact hx.elim
theorem Iz(hX:nW P m gl st){fr fr':Frame}{cs cs':List Frame}(hS:gX P m T (fr::cs) (fr'::cs'))(hm:fr.mode≠.run)(hn:¬AtClose fr)(U:ok->cs=[door P]->fr.mode≠.run->fr.defers=[]->fr.roundOf=none->False):yP P T main' ok m (b5 P true fr cs none) (b5 P main' fr' cs' none):=by
 have hF:=hS.rX;have ac:=hF.defers;have Y:=hF.mode;have ad:=hF.fn;unfold AtClose at hn;obtain⟨fn,tm,td,df,md,kd,rd⟩:=fr;obtain⟨O,ae,af,aq,ag,ah,ai⟩:=fr';simp only at ac Y hm hn U ad;subst ad
 cases ac with
 |cons hd aj=>
  rename_i d d' ds ak;have al:gX P m T (⟨O,tm,td,ds,md,kd,rd⟩::cs) (⟨O,ae,af,ak,ag,ah,ai⟩::cs'):=hS.set (.refl m) ⟨hF.fn,hF.tmps,hF.todo,aj,Y,hF.round⟩ rfl rfl rfl rfl;have ht:=hd.target;obtain⟨dt,da⟩:=d;obtain⟨ar,am⟩:=d';simp only at ht
  cases ht with
  |collected an=>
   rename_i r r';refine .run (zY (P:=P) an) (E:=λ_ es=>bH P O es) (E':=λ_ es=>bH P O es) (λx r es e=>by unfold b5; dsimp only; rw[e]; dsimp only) (λx r es e=>by unfold b5; dsimp only; rw[e]; dsimp only) (λ_ _ _ h=>pG h) (λgE a a' hl ha=>?_) (λ_ _ _ _ _=>.bad λ_ _ _=>?_) (λ_ _ _=>?_)<;>try exact .ended _ _ _
   exact .stay (hS.set hl (g:=⟨O,tm,td,a++ds,md,kd,rd⟩) (g':=⟨O,ae,af,a'++ak,ag,ah,ai⟩) ⟨hF.fn,hF.tmps.mono hl,(hF.mono hl).todo,ha.append (aj.mono λ_ _ x=>x.mono hl),Y.mono hl,(hF.mono hl).round⟩ rfl rfl rfl rfl) (λ_=>rfl) (λ_=>rfl)
  |nil=>exact(qO hX al (d:=⟨.nil,da⟩) (d':=⟨.nil,am⟩) ⟨.nil,hd.args⟩ (λ_ _ _ h=>by cases h)).eq (λ_=>rfl) (λ_=>rfl)
  |fn hf=>exact(qO hX al (d:=⟨_,da⟩) (d':=⟨_,am⟩) ⟨.fn hf,hd.args⟩ (λ_ _ _ h=>by cases h)).eq (λ_=>rfl) (λ_=>rfl)
  |builtin x y z au=>exact absurd ⟨hm,x,y,z,_,_,rfl⟩ hn
  |mark x y z ao=>
   refine .bad λx _ hw=>?_;obtain⟨q,lV,e1⟩:=N1 (P:=P) ao hw;rw[<-cN P _ x #[]]at e1;unfold b5;dsimp only;rw[e1];exact PC.after (.ended _ _ _) _
 |nil=>
  cases Y with
  |run=>exact absurd rfl hm
  |returning=>
   cases aa:P.funcs[O]? with
   |none=>exact .ret hS (λo e h=>U o e (by simp) rfl h) (hF.tmps.getD 0) (λx=>by unfold b5; dsimp only; rw[aa]) (λx=>by unfold b5; dsimp only; rw[aa])
   |some f=>
    refine .run (o9 (P:=P) (fn:=f) hF.tmps) (E:=λ_ es=>bH P O es) (E':=λ_ es=>bH P O es) (λx r es e=>by unfold b5; dsimp only; rw[aa]; dsimp only; rw[e]; dsimp only) (λx r es e=>by unfold b5; dsimp only; rw[aa]; dsimp only; rw[e]; dsimp only) (λ_ _ _ h=>pG h)
     (λgE a a' hl ha=>?_) (λ_ _ _ _ _=>.bad λ_ _ _=>?_) (λx _ _=>?_)
    .exact .ret (hS.mono hl) (λo e h=>U o e (by simp) rfl h) ha (λ_=>rfl) (λ_=>rfl)
    .exact .ended _ _ _
    .cases x<;>exact .ended _ _ _
  |panicking ap=>
   have mP:∀{q q':Frame},jx m q q'->dg P q=false/\dg P q'=false:=by
    intro q q' hq;have:=hq.todo;unfold dg;revert this;generalize q.todo=l;generalize q'.todo=l';intro ht
    cases ht with
    |nil=>constructor <;>(split<;>first|rfl|simp_all)
    |cons hi _=>cases hi <;>(constructor <;>(split<;>first|rfl|simp_all))
   have ab:=mP hF
   cases hS with
   |one hf h1 h2 h3=>exact .low (λo=>U o rfl (by simp) rfl h3) (λx=>by unfold b5; dsimp only; rw[ab.1]; rfl)
   |cons hf h1 h2 h3=>
    have hr:=h3.rX.raise ap;exact .stay (h3.set (.refl m) hr.1 hr.2.1 hr.2.2 (q9 ..) (wm ..)) (λx=>by unfold b5; rw[ab.1]; rfl) (λx=>by unfold b5; rw[ab.2]; rfl)
theorem IB(hX:nW P m gl st){fr fr':Frame}{cs cs':List Frame}(hS:gX P m T (fr::cs) (fr'::cs'))(hn:¬AtClose fr)(U:ok->cs=[door P]->fr.mode≠.run->fr.defers=[]->fr.roundOf=none->False):yP P T main' ok m (bx P true (G fr cs)) (bx P main' (G fr' cs')):=by
 have O:=hS.rX.mode;generalize hq:fr.mode=q at O;generalize Y:fr'.mode=q' at O
 cases O with
 |run=>exact(Na hX hS).eq (λx=>by unfold bx; simp only[G,hq]) (λx=>by unfold bx; simp only[G,Y])
 |returning|panicking=>exact(Iz hX hS (by rw[hq]; simp) hn U).eq (λx=>by unfold bx; simp only[G,hq]) (λx=>by unfold bx; simp only[G,Y])
theorem AE(Y:nW P m gl st){fr fr':Frame}{cs cs':List Frame}(hS:gX P m T (fr::cs) (fr'::cs'))(hn:¬AtClose fr)(O:cs=[door P]->fr.mode≠.run->fr.defers=[]->fr.roundOf=none->False){w:World}(hw:WR m w w')(U:Al w w'){main':Bool}{w₁:World}{es:Array Event}
  (h:bx P true (G fr cs) w=.go (G iH iI) w₁ es):qf P m T (bx P main' (G fr' cs') w') w' iH iI w₁:=(IB (ok:=True) Y hS hn λ_=>O).out trivial hw U h
theorem zA(O:nW P m gl st){fr fr':Frame}{cs cs':List Frame}(U:gX P m T (fr::cs) (fr'::cs'))(Y:¬AtClose fr):yP P T main' False m (bx P true (G fr cs)) (bx P main' (G fr' cs')):=IB O U Y False.elim
theorem RD(O:nW P m gl st){fr fr':Frame}{cs cs':List Frame}(U:gX P m T (fr::cs) (fr'::cs'))(Y:¬AtClose fr){w:World}(hw:WR m w w'){w₁:World}{es:Array Event}
  (h:bx P true (G fr cs) w=.go (G iH iI) w₁ es):zu P (bx P true (G fr cs)) w iH iI w₁:=
 (zA (main':=true) O U Y).loc (R:=λx es=>.go _ x es) ⟨vy,λ_ _ _=>⟨_,rfl⟩,λh=>h.go,TH,λh=>Eg _ _ _ _ _ _ _ _ _ h,λa b c h=>Mw O.env.TW a b c h⟩ hw h
theorem OG(O:nW P m gl st){fr fr':Frame}{cs cs':List Frame}(U:gX P m T (fr::cs) (fr'::cs'))(Y:¬AtClose fr){w:World}(hw:WR m w w'):rC P (bx P true (G fr cs) w):=(zA (main':=true) O U Y).outs hw
theorem Ln(U:nW P m gl st){fr fr':Frame}{cs cs':List Frame}(Y:gX P m T (fr::cs) (fr'::cs'))(hn:¬AtClose fr){w:World}(hw:WR m w w')(O:Al w w'){main':Bool}:QR P m T (bx P true (G fr cs) w) (bx P main' (G fr' cs') w') w':=(zA U Y hn).via hw O
theorem wi(hX:nW P m gl st){fr fr':Frame}{cs cs':List Frame}(hS:gX P m T (fr::cs) (fr'::cs'))(hn:¬AtClose fr){w:World}(hw:WR m w w')(aa:Al w w'){main':Bool}{g:Goroutine}{w₁:World}{es:Array Event}
  (h:bx P true (G fr cs) w=.comm g k b sh w₁ es):KV P m T (bx P main' (G fr' cs') w') w' g k b sh w₁:=by
 have hv:=Ln hX hS hn hw aa (main':=main');rw[h]at hv;rcases hv with⟨gE,X,X',f,c,f',c',s,s',w2,af,e1,e2,hl,hE,ab,hs,ac,O,hk,hx⟩|hp
 .rw[e2];generalize hr:c8 P true f c none s w2=r at e1;cases r<;>simp only[cL,GStep.comm.injEq,reduceCtorEq]at e1;obtain⟨rfl,rfl,rfl,rfl,rfl,_⟩:=e1;obtain⟨ad,ae,m₂,U,Y,k',w3,ag,rfl,g1,g0,g2,g3,g4,g5,g6,g7⟩:=K0 hE ab hs ac O hr;rw[g1];exact⟨ad,ae,m₂,U,Y,k',w3,_,rfl,rfl,g0.imp (λx=>hl.kK▸x) id,hl.trans g2,g3,g4,g5,hk.trans hl g2 g6,vh g2 hx g7⟩
 .cases hp
theorem NS(hX:nW P m gl st){fr fr':Frame}{cs cs':List Frame}(hS:gX P m T (fr::cs) (fr'::cs'))(hn:¬AtClose fr){w:World}(hw:WR m w w')(aa:Al w w'){main':Bool}{g ch:Goroutine}{w₁:World}{es:Array Event}
  (h:bx P true (G fr cs) w=.spawn g ch w₁ es):KY P m T (bx P main' (G fr' cs') w') w' g ch w₁:=by
 have hv:=Ln hX hS hn hw aa (main':=main');rw[h]at hv;rcases hv with⟨gE,X,X',f,c,f',c',s,s',w2,af,e1,e2,hl,hE,ab,hs,ac,O,hk,hx⟩|hp
 .rw[e2];generalize hr:c8 P true f c none s w2=r at e1;cases r<;>simp only[cL,GStep.spawn.injEq,reduceCtorEq]at e1;obtain⟨rfl,rfl,rfl,_⟩:=e1;obtain⟨ad,ae,d,m₂,U,Y,d',w3,ag,rfl,rfl,g1,g0,g2,g3,g4,g5,g6,g7⟩:=Gt hE ab hs ac O hr;rw[g1];exact⟨ad,ae,d,m₂,U,Y,d',w3,_,rfl,rfl,rfl,hl.kK▸g0,hl.trans g2,g3,g4,g5,hk.trans hl g2 g6,vh g2 hx g7⟩
 .cases hp
theorem PF(O:nW P m gl st){fr fr':Frame}{cs cs':List Frame}(U:gX P m T (fr::cs) (fr'::cs'))(Y:¬AtClose fr){w:World}(hw:WR m w w'){g:Goroutine}{w₁:World}{es:Array Event}
  (h:bx P true (G fr cs) w=.comm g k b sh w₁ es):Ge P (bx P true (G fr cs)) w g k b sh w₁:=
 (zA (main':=true) O U Y).loc (R:=λx es=>.comm g k b sh x es) ⟨IQ,λ_ _ _=>⟨_,rfl⟩,λh e=>VJ h.plain e,nofun,λh=>VJ (tc ..) h,λa b c h=>JY O.env.TW a b c h⟩ hw h
end
end
section
open Go.Conc
variable {fr':Frame} {g:Goroutine} {cs':List Frame}
structure LS where
 fr:Frame
 cs:List Frame
 w:World
def LS.m(S:LS):Machine:=b9 S.fr S.cs S.w
inductive GC(P:Program):LS->LS->Prop
 |go {fr cs w iH iI w₁ es}:bx P true (G fr cs) w=.go (G iH iI) w₁ es->GC P ⟨fr,cs,w⟩ ⟨iH,iI,w₁⟩
 |send {fr cs w f0 c0 r v z w₁ es cap buf jU rcvd tm}:bx P true (G fr cs) w=.comm (G f0 c0) #[⟨.chan (some r),some v,z⟩] true .send w₁ es->w₁.heap[r]?=some (.chan cap buf false jU rcvd tm)->buf.size<cap->
   GC P ⟨fr,cs,w⟩ ⟨f0.finish (bS #[⟨.chan (some r),some v,z⟩] .send 0 dR false),c0,{w₁ with heap:=w₁.heap.setIfInBounds r (.chan cap (buf.push v) false (jU+1) rcvd tm)}⟩
section
variable {P:Program} {m:Ren} {T:List Frame} {gl:Nat->Prop} {st:Bool}
theorem nz(hm:¬m.kK){fr:Frame}{cs:List Frame}(O:gX P m T (fr::cs) (fr'::cs')):¬AtClose fr:=by
 rintro⟨_,a,t,c,args,ds,e⟩;have h:=O.rX.defers;rw[e]at h;revert h;generalize fr'.defers=l;intro h
 cases h with
 |@cons _ d' _ _ U _=>
  obtain⟨Y,aa⟩:=d';have ht:=U.target
  cases ht with
  |builtin _ _ _ h=>exact hm h
abbrev Ga:Array Goroutine:=#[{(default:Goroutine)with status:=.finished}]
abbrev uM:Rest:={timers:=#[],alone:=none,slice:=none}
theorem tF{fr:Frame}{cs:List Frame}{w:World}{k:Array CommCase}{b:Bool}{sh:CommShape}{w₁:World}{es:Array Event}(h:bx P true (G fr cs) w=.comm g k b sh w₁ es):step P (b9 fr cs w)=(bz P uM Ga 0 g k b sh w₁).1:=by
 unfold G at h;rw[step,bR,move_lone];simp[bN,b9,bw,h]
theorem Ef{fr:Frame}{cs:List Frame}{w:World}{w₁:World}{es:Array Event}(U:g.status=.running\/g.status=.blocked)(h:bx P true (G fr cs) w=.go g w₁ es):step P (b9 fr cs w)=.next (bI g w₁):=by
 unfold G at h;rw[step,bR,move_lone];rcases U with O|O<;>simp[bN,b9,bI,bw,h,O]
theorem BB:∀(n:Nat){g:Goroutine}{w:World},g.dyingOn P->∀fr cs w',bA P n (bI g w)≠.next (b9 fr cs w')
 |0,g,w,h,fr,cs,w',e=>by
  simp only[bA,dz,bI,b9,Machine.mk.injEq]at e
  obtain⟨_,e,_⟩:=e
  obtain⟨_,d,U,_⟩:=h;have:=congrArg (λx=>x[0]?) e;simp only[cV,cT,dc]at this;rw[this]at U;cases U
 |n+1,g,w,h,fr,cs,w',e=>by
  rcases step_dyingOn (w:=w) h with⟨g',w1,O,Y⟩|⟨o,w1,O,ho⟩
  .simp only[bA,O]at e;exact BB n Y _ _ _ e
  .simp only[bA,O]at e;cases e
theorem BW(n:Nat){w:World}(h:g.status=.blocked)(fr:Frame)(cs:List Frame)(w':World):bA P n (bI g w)≠.next (b9 fr cs w'):=by
 intro e
 cases n with
 |zero=>
  simp only[bA,dz,bI,b9,Machine.mk.injEq]at e;obtain⟨_,e,_⟩:=e;have:=congrArg (λx=>x[0]?) e;simp only[cV,cT,dc]at this;rw[this]at h;cases h
 |succ n=>
  obtain⟨f,c,s,O,off⟩:=g;subst h;obtain⟨U,w1,Y,ho⟩:=endWith_ended w 2 ..
  have:step P (bI {frame:=f,callers:=c,status:=.blocked,dying:=O,offers:=off} w)=.ended U w1:=by
   simp[step,bR,move,ask,askOn,bI,runnable_eq,due,ahead,dG,List.range_succ,pure];rw[Y]
  simp only[bA,this]at e;cases e
theorem vX{r:Nat}{v z:Value}{f0:Frame}{c0:List Frame}{w₁:World}{cap:Nat}{buf:Array Value}{jU O:Nat}{tm:Bool}(Y:w₁.heap[r]?=some (.chan cap buf false jU O tm)) :
  (buf.size<cap/\(bz P uM Ga 0 (G f0 c0) #[⟨.chan (some r),some v,z⟩] true .send w₁).1=.next (b9 (f0.finish (bS #[⟨.chan (some r),some v,z⟩] .send 0 dR false)) c0 {w₁ with heap:=w₁.heap.setIfInBounds r (.chan cap (buf.push v) false (jU+1) O tm)}))\/
  (¬buf.size<cap/\((∃g w2,g.status=.blocked/\(bz P uM Ga 0 (G f0 c0) #[⟨.chan (some r),some v,z⟩] true .send w₁).1=.next (bI g w2))\/∃o w2,(bz P uM Ga 0 (G f0 c0) #[⟨.chan (some r),some v,z⟩] true .send w₁).1=.ended o w2)):=by
 by_cases hb:buf.size<cap
 .simp[bz,Y,ways,bD,hb,choose,cM,dI,bind,cP,pure,dE,b9,G]
 .refine .inr ⟨hb,?_⟩
  cases U:waitingAt uM #[⟨.chan (some r),some v,z⟩] w₁ with
  |none=>exact .inr ⟨_,_,by simp[bz,Y,ways,bD,hb,U]; exact⟨rfl,rfl⟩⟩
  |some w2=>exact .inl ⟨{G f0 c0 with status:=.blocked,offers:=some (#[⟨.chan (some r),some v,z⟩],.send)},w2,rfl,by simp[bz,Y,ways,bD,hb,U,bI]⟩
theorem G0{ch v z:Value}{f0:Frame}{c0:List Frame}{w₁:World}(Y:∀r,ch=.chan (some r)->False) :
  ((∃g w2,g.status=.blocked/\(bz P uM Ga 0 (G f0 c0) #[⟨ch,some v,z⟩] true .send w₁).1=.next (bI g w2))\/∃o w2,(bz P uM Ga 0 (G f0 c0) #[⟨ch,some v,z⟩] true .send w₁).1=.ended o w2):=by
 by_cases U:ch=.chan none
 .subst U
  cases O:waitingAt uM #[⟨.chan none,some v,z⟩] w₁ with
  |none=>exact .inr ⟨_,_,by simp[bz,ways,O]; exact⟨rfl,rfl⟩⟩
  |some w2=>exact .inl ⟨{G f0 c0 with status:=.blocked,offers:=some (#[⟨.chan none,some v,z⟩],.send)},w2,rfl,by simp[bz,ways,O,bI]⟩
 .cases ch with
  |chan x=>
   cases x with
   |none=>exact absurd rfl U
   |some r=>exact(Y r rfl).elim
  |_=>simp[bz]
def Open(m:Ren):Prop:=∀r r',m.ch r=some r'->∃cap buf jU O tm,m.n5 r=some (.chan cap buf false jU O tm)
theorem DI(hX:nW P m gl st)(hm:¬m.kK)(ho:Open m){fr:Frame}{cs:List Frame}(hS:gX P m T (fr::cs) (fr'::cs')){w w':World}(hw:WR m w w'){n:Nat}{f1:Frame}{c1:List Frame}{w1:World}
  (h:bA P (n+1) (b9 fr cs w)=.next (b9 f1 c1 w1)):∃S,GC P ⟨fr,cs,w⟩ S/\bA P n S.m=.next (b9 f1 c1 w1):=by
 have hn:=nz hm hS;have U:=OG hX hS hn hw;generalize hs:bx P true _ w=s at U
 cases U with
 |go g c w₁ es=>
  refine⟨⟨g,c,w₁⟩,.go hs,?_⟩;have:=bF (by unfold G at hs; rw[hs]; rfl);simp only[bA,this]at h;exact h
 |ended o w₁ es=>
  have:=bB (by unfold G at hs; rw[hs]; rfl);simp only[bA,this]at h;cases h
 |dies g w₁ es hd=>
  have:=Ef hd.1 hs;simp only[bA,this]at h;exact absurd h (BB n hd _ _ _)
 |spawn g c d w₁ es=>
  obtain⟨ac,Y,aa,_⟩:=align hw;obtain⟨_,_,_,_,_,_,_,_,_,_,_,_,ad,_⟩:=NS (main':=true) hX hS hn Y aa hs;exact absurd ad hm
 |comm g c k b sh w₁ es=>
  obtain⟨ac,Y,aa,_⟩:=align hw;obtain⟨f0,c0,gE,ai,aj,k',ae,ak,e0,e1,e2,e3,e4,e5,e6,e7,e8⟩:=wi (main':=true) hX hS hn Y aa hs;obtain⟨rfl,rfl,ch,v,z,rfl⟩:=e2.resolve_left hm;have af:=tF hs;simp only[bA,af]at h
  have dead:((∃gg w2,dD gg=.blocked/\(bz P uM Ga 0 (G g c) #[⟨ch,some v,z⟩] true .send w₁).1=.next (bI gg w2))\/∃o w2,(bz P uM Ga 0 (G g c) #[⟨ch,some v,z⟩] true .send w₁).1=.ended o w2)->False:=by
   rintro(⟨gg,w2,hg,e⟩|⟨o,w2,e⟩)
   .rw[e]at h;exact BW n hg _ _ _ h
   .rw[e]at h;cases h
  by_cases hc:∃r,ch=.chan (some r)
  .obtain⟨r,rfl⟩:=hc
   have O:∃r',gE.ch r=some r':=by
    revert e5;generalize k'.toList=l;intro e5
    cases e5 with
    |@cons _ q _ _ hx _=>
     obtain⟨al,am,an⟩:=q;have hv:=hx.chan
     cases hv with
     |chan hb=>exact⟨_,hb⟩
   obtain⟨r',O⟩:=O;rw[e7.oY hm]at O;obtain⟨cap,buf,jU,ah,tm,ag⟩:=ho r r' O;have ab:=(e6.n5 r _ (by rw[e7.n5]; exact ag)).1;rcases vX (P:=P) (v:=v) (z:=z) (f0:=g) (c0:=c) ab with⟨hb,e⟩|⟨hb,e⟩
   .rw[e]at h;exact⟨_,.send hs ab hb,h⟩
   .exact(dead e).elim
  .exact(dead (G0 λr e=>hc ⟨r,e⟩)).elim
end
end
section
open Go.Conc
variable {fr':Frame} {S S':LS} {cs':List Frame} {w w':World}
def LS.on(S:LS)(τ:Nat->Question->Nat):LS:=⟨S.fr,S.cs,tp S.w τ⟩
def Ch(τ:Nat->Question->Nat)(w:World):Prop:=∀i,i<w.drawn->τ i=w.tape i
def Fin(P:Program)(S:LS):Prop:=S.cs=[door P]/\S.fr.mode≠.run/\S.fr.defers=[]/\S.fr.roundOf=none
structure yD(P:Program)(gl:Nat->Prop)(st:Bool)(m:Ren)(T:List Frame)(S:LS)(fr':Frame)(cs':List Frame)(w':World):Prop where
 rL:nW P m gl st
 kK:¬m.kK
 op:Open m
 stack:gX P m T (S.fr::S.cs) (fr'::cs')
 world:WR m S.w w'
theorem HJ{f f':Frame}{c O:List Frame}(h:b9 f c w=b9 f' O w'):f=f'/\c=O/\w=w':=by
 simp only[b9,Machine.mk.injEq]at h;obtain⟨U,Y,_⟩:=h;have:=congrArg (λx=>x[0]?) Y;simp only[cV,cT,dc,Goroutine.mk.injEq]at this;exact⟨this.1,this.2.1,U⟩
theorem LS.LN(h:S.m=S'.m):S=S':=by
 obtain⟨f,c,w⟩:=S;obtain⟨rfl,rfl,rfl⟩:=HJ h;rfl
section
variable {P:Program} {m:Ren} {T:List Frame} {gl:Nat->Prop} {st:Bool}
theorem GC.next(h:GC P S S'):step P S.m=.next S'.m:=by
 cases h with
 |go h=>exact bF (by unfold G at h; rw[h]; rfl)
 |send h O hb=>
  have:=tF h;rcases vX (P:=P) (v:=_) (z:=_) (f0:=_) (c0:=_) O with⟨_,e⟩|⟨U,_⟩
  .exact this.trans e
  .exact absurd hb U
theorem GC.loc(O:yD P gl st m T S fr' cs' w')(h:GC P S S'):S.w.drawn<=S'.w.drawn/\S'.w.tape=S.w.tape/\∀τ,xi τ S.w S'.w->GC P (S.on τ) (S'.on τ):=by
 cases h with
 |go h=>
  obtain⟨Y,h2,h3⟩:=RD O.rL O.stack (nz O.kK O.stack) O.world h;exact⟨Y,h2,λτ U=>by obtain⟨es,e⟩:=h3 τ U; exact .go e⟩
 |send h hc hb=>
  obtain⟨Y,h2,h3⟩:=PF O.rL O.stack (nz O.kK O.stack) O.world h;exact⟨Y,h2,λτ U=>by obtain⟨es,e⟩:=h3 τ U; exact .send e hc hb⟩
def Ren.put(m:Ren)(r:Nat)(o:Obj):Ren:={m with n5:=λx=>if x=r then some o else m.n5 x}
theorem Ren.qS(m:Ren)(r:Nat)(o:Obj):m.Le (m.put r o):=⟨λ_ _ h=>h,λ_ _ h=>h,λ_ _ _=>Iff.rfl,λ_ h=>h,rfl,rfl,rfl,rfl,rfl,rfl,rfl⟩
theorem WR.put(h:WR m w w'){r:Nat}{o:Obj}(ho:∃c b x s y t,o=.chan c b x s y t)(Y:∃c b x s y t,w.heap[r]?=some (.chan c b x s y t)):WR (m.put r o) {w with heap:=w.heap.setIfInBounds r o} w':=by
 obtain⟨c0,b0,x0,s0,y0,t0,Y⟩:=Y;have aa:=mF Y
 have ne:∀s s',m.blk s=some s'->r≠s:=by
  rintro s s' hb rfl;obtain⟨x,x',O,_,h3⟩:=h.obj _ _ hb;rw[Y]at O;cases O;cases h3
 have get:∀s,r≠s->(w.heap.setIfInBounds r o)[s]?=w.heap[s]?:=λs U=>bm U;refine⟨λs s' hb=>?_,λs s' c e f c' e' f' hb O h2 hn=>?_,λs s' c e f c' e' f' hb O h2 hl=>?_,λs s' hb=>by simpa using h.NY s s' hb,(show m.G<=(w.heap.setIfInBounds r o).size by simpa using h.Od),h.LR,h.os,λs x U=>?_,λs s' hb hl=>?_,λs U=>?_,λs i v hv=>?_⟩
 .obtain⟨x,x',O,h2,h3⟩:=h.obj s s' hb;exact⟨x,x',by rw[get s (ne s s' hb)]; exact O,h2,h3.mono (Ren.qS m r o)⟩
 .exact h.fz s s' _ _ _ _ _ _ hb (by rw[<-get s (ne s s' hb)]; exact O) h2 hn
 .exact h.all s s' _ _ _ _ _ _ hb (by rw[<-get s (ne s s' hb)]; exact O) h2 hl
 .by_cases e:s=r
  .subst e;simp only[Ren.put,if_true,dc]at U;subst U;exact⟨by simp[aa],ho⟩
  .simp only[Ren.put,e,if_false]at U;obtain⟨g1,g2⟩:=h.n5 s x U;exact⟨by rw[get s (dH e)]; exact g1,g2⟩
 .obtain⟨c,e,f,hx⟩:=h.lk s s' hb hl;exact⟨c,e,f,by rw[get s (ne s s' hb)]; exact hx⟩
 .obtain⟨O,c,e,f,hx⟩:=h.dead s U;refine⟨O,c,e,f,?_⟩;rw[get s]
  .exact hx
  .rintro rfl;rw[Y]at hx;cases hx
 .obtain⟨s',hb,hp⟩:=h.ur s i v hv;exact⟨s',hb,λc e f c' e' f' x g1=>hp c e f c' e' f' x (by rw[<-get s (ne s s' hb)]; exact g1)⟩
theorem yD.own(O:yD P gl st m T S fr' cs' w')(hf:¬Fin P S)(h:GC P S S'):∃gE iH iI w₁,yD P gl st gE T S' iH iI w₁:=by
 obtain⟨af,ab,ac,_⟩:=align O.world;have hn:=nz O.kK O.stack
 cases h with
 |go h=>
  obtain⟨gE,f,c,lV,es,_,h1,h2,h3,h4,_⟩:=AE (main':=true) O.rL O.stack hn (λa b c d=>hf ⟨a,b,c,d⟩) ab ac h;exact⟨gE,f,c,lV,O.rL.mono h1,by rw[h1.kK]; exact O.kK,λr r' hr=>by rw[h4.oY O.kK]at hr; rw[h4.n5]; exact O.op r r' hr,h2,h3⟩
 |@send _ _ _ f0 c0 r v z w₁ es cap buf jU aa tm h hc hb=>
  obtain⟨f1,c1,gE,ad,ae,k',lV,ag,e0,_,_,h1,h2,h3,h4,h5,_⟩:=wi (main':=true) O.rL O.stack hn ab ac h
  obtain⟨rfl,rfl⟩:f0=f1/\c0=c1:=by
   have:=congrArg dB e0;have h':=congrArg dA e0;exact⟨this,h'⟩
  have U:=(h2.rX).finish (VR.undef gE);refine⟨gE.put r (.chan cap (buf.push v) false (jU+1) aa tm),ad.finish dR,ae,lV,(O.rL.mono h1).mono (Ren.qS ..),?_,?_,?_,?_⟩
  .show ¬gE.kK;rw[h1.kK]; exact O.kK
  .intro s s' Y;by_cases e:s=r
   .exact⟨cap,buf.push v,jU+1,aa,tm,by simp[Ren.put,e]⟩
   .have Y:gE.ch s=some s':=Y;rw[h5.oY O.kK]at Y;obtain⟨a,b,c,d,e',hx⟩:=O.op s s' Y;exact⟨a,b,c,d,e',by simp only[Ren.put,e,if_false]; rw[h5.n5]; exact hx⟩
  .exact(h2.set (.refl gE) U.1 U.2.1 U.2.2 (iY ..) (km ..)).mono (Ren.qS ..)
  .exact h4.put ⟨_,_,_,_,_,_,rfl⟩ ⟨_,_,_,_,_,_,hc⟩
theorem Nv:Extern.next "fmt's door" = none:=by rfl
theorem MO(v:Value)(w:World):∃o w',step P (b9 ((door P).finish v) [] w)=.ended o w':=by
 have:bx P true {frame:=(door P).finish v,callers:=[],status:=.running,dying:=none} w=.ended (.stuck ("no extern row " ++ "fmt's door") (di P ((door P).finish v))) w:=by
  have e:=Nv;simp only[door,Frame.finish,bx,c9,e,Option.elim]
 exact⟨_,_,bB rfl⟩
theorem FM(c:List PanicEntry)(w:World):∃o w',step P (b9 ((door P).raise c) [] w)=.ended o w':=by
 have O:dg P ((door P).raise c)=true:=by
  simp[door,dk,dg]
 have:∃o,bx P true {frame:=(door P).raise c,callers:=[],status:=.running,dying:=none} w=.ended o w:=by
  have hm:((door P).raise c).mode=.panicking c:=rfl;have U:((door P).raise c).defers=[]:=rfl
  exact⟨_,by
   unfold bx;unfold b5;simp only[hm,U,O,if_true]
   rfl⟩
 obtain⟨o,this⟩:=this;exact⟨_,_,bB (by rw[this]; rfl)⟩
theorem CX(hS:gX P m T (S.fr::S.cs) (fr'::cs'))(hf:Fin P S)(n:Nat){O:LS}(hc:O.cs≠[]):bA P (n+1) S.m≠.next O.m:=by
 obtain⟨fr,cs,w⟩:=S;obtain⟨h1,h2,h3,h4⟩:=hf;simp only at h1 h2 h3 h4 hc hS;subst h1
 have hk:=by cases hS with|one _ h _ _=>exact h
                                    |cons _ _ _ h=>cases h
 intro e
 have fin:(∃v w2,step P (b9 fr [door P] w)=.next (b9 ((door P).finish v) [] w2))\/(∃v w2,step P (b9 fr [door P] w)=.next (b9 ((door P).raise v) [] w2))\/∃o w2,step P (b9 fr [door P] w)=.ended o w2:=by
  cases hm:fr.mode with
  |run=>exact absurd hm h2
  |panicking ch=>
   by_cases aa:fr.catches P=true
   .refine .inr (.inr ?_)
    have:∃o,bx P true {frame:=fr,callers:=[door P],status:=.running,dying:=none} w=.ended o w:=by
     exact⟨_,by
      unfold bx;unfold b5;simp only[hm,h3,aa,if_true]
      rfl⟩
    obtain⟨o,this⟩:=this;exact⟨_,_,bB (by rw[this]; rfl)⟩
   .refine .inr (.inl ⟨ch,w,bF ?_⟩);unfold bx;unfold b5;simp[hm,h3,aa]
  |returning=>
   cases hp:P.funcs[fr.fn]? with
   |none=>
    refine .inl ⟨fr.tmps.getD 0 dR,w,bF ?_⟩;simp[bx,b5,b4,hm,h3,hk,hp]
   |some fn=>
    cases hr:(results fn fr.tmps).run P w with
    |ok v w2=>
     refine .inl ⟨v,w2,bF ?_⟩;simp[bx,b5,b4,hm,h3,hk,hp,hr]
    |halt x w2=>
     refine .inr (.inr ?_)
     have:∃o,(bx P true {frame:=fr,callers:=[door P],status:=.running,dying:=none} w).bare=.ended o w2:=by
      cases x<;>exact⟨_,by simp[bx,b5,b4,hm,h3,hk,hp,hr]; rfl⟩
     obtain⟨o,this⟩:=this;exact⟨_,_,bB this⟩
 have two:∀(f:Frame)(w2:World),(∃o w',step P (b9 f [] w2)=.ended o w')->step P (b9 fr [door P] w)=.next (b9 f [] w2)->False:=by
  rintro f w2 ⟨o,w3,hh⟩ Y;have U:bA P _ (b9 fr _ w)=.next _:=e;simp only[bA,Y]at U
  cases n with
  |zero=>
   simp only[bA,dz]at U;exact hc (HJ U).2.1.symm
  |succ n=>
   simp only[bA,hh]at U;cases U
 rcases fin with⟨v,w2,Y⟩|⟨v,w2,Y⟩|⟨o,w2,Y⟩
 .exact two _ _ (MO v w2) Y
 .exact two _ _ (FM v w2) Y
 .have U:bA P _ (b9 fr _ w)=.next _:=e;simp only[bA,Y]at U;cases U
end
end
section
open Go.Conc
variable {S':LS} {w':World}
def oc(P:Program)(Stop:LS->Prop)(S:LS):Prop:=∀τ,Ch τ S.w->∃n O,bA P n (S.on τ).m=.next (LS.m O)/\Stop O/\O.cs≠[]
def As(Stop:LS->Prop):Prop:=∀S τ,Stop (S.on τ)->Stop S
def pO(P:Program)(Stop:LS->Prop)(S' S:LS):Prop:=¬Stop S/\∃τ,Ch τ S.w/\GC P (S.on τ) S'
def xy(P:Program)(S:LS):Prop:=∃gl st m T fr' cs' w',yD P gl st m T S fr' cs' w'
theorem WR.tp{m:Ren}{w:World}(h:WR m w w')(τ:Nat->Question->Nat):WR m (tp w τ) w':=⟨h.obj,h.fz,h.all,h.NY,h.Od,h.LR,h.os,h.n5,h.lk,h.dead,h.ur⟩
section
variable {P:Program} {m:Ren} {T:List Frame} {gl:Nat->Prop} {st:Bool} {Stop:LS->Prop}
theorem yD.on{S:LS}{fr':Frame}{cs':List Frame}(h:yD P gl st m T S fr' cs' w')(τ:Nat->Question->Nat):yD P gl st m T (S.on τ) fr' cs' w':=⟨h.rL,h.kK,h.op,h.stack,h.world.tp τ⟩
theorem Kz(w:World):Ch w.tape w:=λ_ _=>rfl
theorem U0(S:LS)(τ O:Nat->Question->Nat):(S.on τ).on O=S.on O:=rfl
theorem oc.step(hB:As Stop){S:LS}(O:xy P S)(hH:oc P Stop S)(hn:¬Stop S)(τ:Nat->Question->Nat)(Y:Ch τ S.w):¬Fin P S/\∃S',GC P (S.on τ) S':=by
 obtain⟨gl,st,m,T,fr',cs',w',O⟩:=O;obtain⟨n,aa,U,h2,h3⟩:=hH τ Y
 cases n with
 |zero=>
  simp only[bA,dz]at U;obtain rfl:=LS.LN U;exact absurd (hB _ _ h2) hn
 |succ n=>
  refine⟨λhf=>CX (m:=m) (T:=T) (S:=S.on τ) (O.on τ).stack ⟨hf.1,hf.2⟩ n h3 U,?_⟩;obtain⟨S',g,_⟩:=DI (O.on τ).rL O.kK O.op (O.on τ).stack (O.on τ).world U;exact⟨S',g⟩
theorem xy.own{S:LS}(O:xy P S)(U:¬Fin P S)(h:GC P S S'):xy P S':=by
 obtain⟨gl,st,m,T,fr',cs',w',O⟩:=O;obtain⟨gE,f,c,w,h⟩:=O.own U h;exact⟨gl,st,gE,T,f,c,w,h⟩
theorem xy.on{S:LS}(O:xy P S)(τ:Nat->Question->Nat):xy P (S.on τ):=by
 obtain⟨gl,st,m,T,fr',cs',w',O⟩:=O;exact⟨gl,st,m,T,fr',cs',w',O.on τ⟩
theorem Ao{S:LS}(O:xy P S)(h:GC P S S'):S.w.drawn<=S'.w.drawn/\S'.w.tape=S.w.tape/\∀τ,xi τ S.w S'.w->GC P (S.on τ) (S'.on τ):=by
 obtain⟨gl,st,m,T,fr',cs',w',O⟩:=O;exact h.loc O
theorem oc.own(hB:As Stop){S:LS}(hs:xy P S)(hH:oc P Stop S)(h:pO P Stop S' S):xy P S'/\oc P Stop S':=by
 obtain⟨hn,τ,Y,ho⟩:=h;have hf:=(hH.step hB hs hn τ Y).1;refine⟨(hs.on τ).own (λx=>hf ⟨x.1,x.2⟩) ho,λU O=>?_⟩;obtain⟨h1,h2,h3⟩:=Ao (hs.on τ) ho;have h1:S.w.drawn<=S'.w.drawn:=h1;have h2:S'.w.tape=τ:=h2
 have aa:=h3 U λi _ b=>by
  rw[O i b,h2]; rfl
 rw[U0]at aa
 have hb:Ch U _:=λi hi=>by
  rw[O i (cA hi h1),h2]; exact Y i hi
 obtain⟨n,ab,g1,g2,g3⟩:=hH U hb
 cases n with
 |zero=>
  simp only[bA,dz]at g1;obtain rfl:=LS.LN g1;exact absurd (hB _ _ g2) hn
 |succ n=>
  simp only[bA,aa.next]at g1;exact⟨n,ab,g1,g2,g3⟩
theorem RJ{α:Type}{r:α->α->Prop}{x:α}(h:¬Acc r x):∃y,r y x/\¬Acc r y:=by
 by_cases O:∃y,r y x/\¬Acc r y
 .exact O
 .exact absurd (Acc.intro x λy U=>dr λY=>O ⟨y,U,Y⟩) h
open Classical in
theorem oc.acc(hB:As Stop){S:LS}(hs:xy P S)(hH:oc P Stop S):Acc (pO P Stop) S:=by
 apply dr;intro ab;let X:={S:LS // xy P S/\oc P Stop S/\¬Acc (pO P Stop) S}
 have nx:∀x:X,∃y:X,pO P Stop y.1 x.1:=by
  rintro⟨x,h1,Y,h3⟩;obtain⟨y,hr,hy⟩:=RJ h3;have:=Y.own hB h1 hr;exact⟨⟨y,this.1,this.2,hy⟩,hr⟩
 let f:=λx=>du (nx x);have hf:=λx=>dv (nx x);let s:Nat->X:=λn=>Nat.rec ⟨S,hs,hH,ab⟩ (λ_ x=>f x) n;have O:∀n,pO P Stop (s (n+1)).1 _:=λn=>hf _
 have one:∀n,(s n).1.w.drawn<=(s (n+1)).1.w.drawn/\(∀i,i<(s n).1.w.drawn->(s (n+1)).1.w.tape i=(s n).1.w.tape i):=by
  intro n;obtain⟨_,τ,U,ho⟩:=O n;obtain⟨h1,Y,_⟩:=Ao ((s n).2.1.on τ) ho;exact⟨h1,λi hi=>by rw[Y]; exact U i hi⟩
 have mono:∀k n,(s n).1.w.drawn<=(s (n+k)).1.w.drawn/\(∀i,i<(s n).1.w.drawn->(s (n+k)).1.w.tape i=(s n).1.w.tape i):=by
  intro k
  induction k with
  |zero=>exact λn=>⟨cB _,λ_ _=>rfl⟩
  |succ k ih=>
   intro n;have a:=ih n;have b:=one (n+k);refine⟨cC a.1 b.1,λi hi=>?_⟩;have:=b.2 i (cA hi a.1);exact this.trans (a.2 i hi)
 let τ:=λi=>if h:∃n,i<(s n).1.w.drawn then(s (du h)).1.w.tape i else λ_=>0
 have U:∀n i,i<(s n).1.w.drawn->τ i=(s n).1.w.tape i:=by
  intro n i hi;have hx:∃n,i<(s n).1.w.drawn:=⟨n,hi⟩;have e:τ i=(s _).1.w.tape i:=dif_pos hx;have hk:=dv hx;rw[e];generalize du hx=k at hk;rcases Nat.le_total k n with h|h
  .obtain⟨d,rfl⟩:=cE h;exact((mono d k).2 i hk).symm
  .obtain⟨d,rfl⟩:=cE h;exact(mono d n).2 i hi
 have go:∀n,GC P ((s n).1.on τ) ((s (n+1)).1.on τ):=by
  intro n;obtain⟨_,aa,hb,ho⟩:=O n;obtain⟨h1,Y,h3⟩:=Ao ((s n).2.1.on aa) ho;have Y:(s (n+1)).1.w.tape=aa:=Y
  exact h3 τ λi _ hi=>by
   rw[U (n+1) i hi,Y]; rfl
 have run:∀n k,bA P n ((s k).1.on τ).m=.next ((s (k+n)).1.on τ).m:=by
  intro n
  induction n with
  |zero=>exact λk=>rfl
  |succ n ih=>
   intro k;simp only[bA,(go k).next];rw[ih (k+1),Nat.add_right_comm];rfl
 obtain⟨n,ac,g1,g2,_⟩:=hH τ λi hi=>U 0 i hi;have:=run n 0;rw[Nat.zero_add]at this;have e:=this.symm.trans g1;simp only[dz]at e;obtain rfl:=LS.LN e;exact(O n).1 (hB _ _ g2)
end
end
section
open Go.Conc
variable {fr':Frame} {S:LS} {cs':List Frame} {w' lV:World}
section
variable {P:Program} {m:Ren} {T:List Frame} {gl:Nat->Prop} {st:Bool} {Stop:LS->Prop}
theorem WR.rely{w:World}(h:WR m w w')(Y:∀r r',m.blk r=some r'->lV.heap[r']?=w'.heap[r']?)(hs:w'.heap.size<=lV.heap.size)(ho:lV.os=w'.os):WR m w lV:=by
 refine⟨λr r' hb=>?_,λr r' c e f c' e' f' hb O U hn=>?_,λr r' c e f c' e' f' hb O U hl=>?_,λr r' hb=>?_,h.Od,cC h.LR hs,ho.trans h.os,h.n5,h.lk,h.dead,λr i v hv=>?_⟩
 .obtain⟨o,o',O,U,h3⟩:=h.obj r r' hb;exact⟨o,o',O,by rw[Y r r' hb]; exact U,h3⟩
 .exact h.fz r r' _ _ _ _ _ _ hb O (by rw[<-Y r r' hb]; exact U) hn
 .exact h.all r r' _ _ _ _ _ _ hb O (by rw[<-Y r r' hb]; exact U) hl
 .have:=h.NY r r' hb;exact⟨this.1,cA this.2 hs⟩
 .obtain⟨r',hb,hp⟩:=h.ur r i v hv;exact⟨r',hb,λc e f c' e' f' x g1 g2=>hp c e f c' e' f' x g1 (by rw[<-Y r r' hb]; exact g2)⟩
theorem yD.rely(h:yD P gl st m T S fr' cs' w')(O:∀r r',m.blk r=some r'->lV.heap[r']?=w'.heap[r']?)(U:w'.heap.size<=lV.heap.size)(Y:lV.os=w'.os):yD P gl st m T S fr' cs' lV:=⟨h.rL,h.kK,h.op,h.stack,h.world.rely O U Y⟩
structure sx(P:Program)(gl:Nat->Prop)(st:Bool)(m:Ren)(T:List Frame)(S:LS)(r r':Nat)(v v':Value)(fr':Frame)(cs':List Frame)(w':World):Prop where
 rL:nW P m gl st
 kK:¬m.kK
 op:Open m
 ch:m.ch r=some r'
 val:VR m v v'
 uv:∃f0 wl cap buf jU rcvd tm,S=⟨f0.finish dR,S.cs,{wl with heap:=wl.heap.setIfInBounds r (.chan cap (buf.push v) false (jU+1) rcvd tm)}⟩/\gX P m T (f0::S.cs) (fr'::cs')/\WR m wl w'/\wl.heap[r]?=some (.chan cap buf false jU rcvd tm)/\buf.size<cap
theorem sx.rely{r r':Nat}{v U:Value}(h:sx P gl st m T S r r' v U fr' cs' w')(Y:∀r r',m.blk r=some r'->lV.heap[r']?=w'.heap[r']?)(hs:w'.heap.size<=lV.heap.size)(ho:lV.os=w'.os):sx P gl st m T S r r' v U fr' cs' lV:=by
 obtain⟨f0,wl,cap,buf,jU,O,tm,h1,h2,h3,h4⟩:=h.uv;exact⟨h.rL,h.kK,h.op,h.ch,h.val,f0,wl,cap,buf,jU,O,tm,h1,h2,h3.rely Y hs ho,h4⟩
theorem sx.done{r r':Nat}{v v':Value}(h:sx P gl st m T S r r' v v' fr' cs' w'):∃o,yD P gl st (m.put r o) T S (fr'.finish dR) cs' w':=by
 obtain⟨f0,wl,cap,buf,jU,U,tm,h1,h2,h3,h4,_⟩:=h.uv;have O:=h2.rX.finish (VR.undef m);refine⟨.chan cap (buf.push v) false (jU+1) U tm,h.rL.mono (Ren.qS ..),h.kK,λs s' Y=>?_,?_,?_⟩
 .by_cases e:s=r
  .exact⟨cap,buf.push v,jU+1,U,tm,by simp[Ren.put,e]⟩
  .obtain⟨a,b,c,d,e',hx⟩:=h.op s s' Y;exact⟨a,b,c,d,e',by simp only[Ren.put,e,if_false]; exact hx⟩
 .rw[h1];exact(h2.set (.refl m) O.1 O.2.1 O.2.2 (iY ..) (km ..)).mono (Ren.qS ..)
 .rw[h1];exact h3.put ⟨_,_,_,_,_,_,rfl⟩ ⟨_,_,_,_,_,_,h4⟩
inductive Does(P:Program)(gl:Nat->Prop)(st:Bool)(Stop:LS->Prop)(m:Ren)(T:List Frame)(S:LS)(w':World):GStep->Prop
 |go {S' gE iH iI w₁ es}:pO P Stop S' S->m.Le gE->yD P gl st gE T S' iH iI w₁->jj m gE w' w₁->(∀e∈es,qY gE e)->Does P gl st Stop m T S w' (.go (G iH iI) w₁ es)
 |send {S' gE iH iI w₁ es r r' v v' z'}:pO P Stop S' S->m.Le gE->sx P gl st gE T S' r r' v v' iH iI w₁->jj m gE w' w₁->(∀e∈es,qY gE e)->Does P gl st Stop m T S w' (.comm (G iH iI) #[⟨.chan (some r'),some v',z'⟩] true .send w₁ es)
def along(w w':World):Nat->Question->Nat:=λi=>if i<w.drawn then w.tape i else w'.tape (w'.drawn+(i-w.drawn))
theorem Gy(w w':World):Ch (along w w') w:=λi hi=>by simp[along,hi]
theorem r9(w w':World):Al (tp w (along w w')) w':=λi q=>by
 show w'.tape _ q=along w w' (w.drawn+i) q;have:¬w.drawn+i<w.drawn:=by omega
 simp[along,this]
theorem yD.Uu(hB:As Stop)(U:yD P gl st m T S fr' cs' w')(hH:oc P Stop S)(hn:¬Stop S)(main':Bool):Does P gl st Stop m T S w' (bx P main' (G fr' cs') w'):=by
 have hb:=Gy S.w w';have af:=r9 S.w w';obtain⟨hf,S',ho⟩:=hH.step hB ⟨_,_,_,_,_,_,_,U⟩ hn _ hb;have hg:pO P Stop S' S:=⟨hn,_,hb,ho⟩;have O:=U.on (along S.w w');have aa:=nz O.kK O.stack;generalize ac:S.on _=S0 at ho O aa;have Y:Al S0.w w':=by rw[<-ac]; exact af
 have ag:¬Fin P S0:=by rw[<-ac]; exact λx=>hf ⟨x.1,x.2⟩
 cases ho with
 |go h=>
  obtain⟨gE,f,c,lV,es,e,h1,h2,h3,h4,h5⟩:=AE (main':=main') O.rL O.stack aa (λa b c d=>ag ⟨a,b,c,d⟩) O.world Y h;rw[e];exact .go hg h1 ⟨U.rL.mono h1,by rw[h1.kK]; exact U.kK,λr r' hr=>by rw[h4.oY U.kK]at hr; rw[h4.n5]; exact U.op r r' hr,h2,h3⟩ h4 h5
 |@send _ _ _ f0 c0 r v z w₁ es cap buf jU ad tm h hc ah=>
  obtain⟨f1,c1,gE,am,an,k',lV,ao,e0,e,_,h1,h2,h3,h4,h5,h6⟩:=wi (main':=main') O.rL O.stack aa O.world Y h;obtain⟨rfl,rfl⟩:f0=f1/\c0=c1:=⟨congrArg dB e0,congrArg dA e0⟩;obtain⟨kl⟩:=k'
  cases h3 with
  |@cons _ q _ _ hx ab=>
   cases ab;obtain⟨ap,aq,ar⟩:=q;have ai:=hx.chan;have aj:=hx.send
   cases ai with
   |@chan _ r' ak=>
   cases aj with
   |@some _ v' hv=>
   rw[e];have al:Open gE:=λs s' ae=>by rw[h5.oY U.kK]at ae; rw[h5.n5]; exact U.op s s' ae
   exact .send hg h1 ⟨U.rL.mono h1,by rw[h1.kK]; exact U.kK,al,ak,hv,f0,w₁,cap,buf,jU,ad,tm,rfl,h2,h4,hc,ah⟩ h5 h6
end
end
section
open Go.Conc
variable {es:Array Event} {fn:bJ} {m':Ren} {pos:String}
def nB:Go.Loc->Option Nat
 |.cell a=>some a.block
 |.obj r=>some r
 |_=>none
def pP(t:b6)(g:Nat)(m:Ren):Prop:=∀p a b r,cb t p=some a->nB a.loc=some b->m.blk r=some b->(m.loose r->a.write=true)->cn t g p
def Q9(t:b6)(B:Nat):Prop:=∀p a b,cb t p=some a->nB a.loc=some b->b<B
def qy(m m':Ren):Prop:=∀r r' b,m.blk r=some b->m'.blk r'=some b->m.loose r/\m'.loose r'
theorem qy.symm{m:Ren}(h:qy m m'):qy m' m:=λr r' b x y=>⟨(h r' r b y x).2,(h r' r b y x).1⟩
section
variable {t u:b6} {g:Nat} {m gE:Ren} {B:Nat}
theorem oI{e:Event}(h:qY m e){x:Touch}(O:(dp e).touch?=some x)(hm:x.loc.isMemory=true):∃b r,nB x.loc=some b/\m.blk r=some b/\(m.loose r->x.write=false):=by
 obtain⟨loc,wr,sy⟩:=e
 cases loc with
 |cell a=>
  obtain⟨Y,a0,ha,hw⟩:=h;simp only[dp,dq,dc]at O;subst O;refine⟨a.block,a0.block,rfl,ha.blk,λU=>?_⟩
  cases wr with
  |false=>rfl
  |true=>exact absurd U (hw rfl)
 |obj r=>
  obtain⟨Y,r0,hb,U⟩:=h;subst Y;cases wr <;>(simp only[dp,dq,dc]at O; subst O; exact⟨r,r0,rfl,hb,λx=>absurd x U⟩)
 |mark k=>
  have hk:=h;cases k<;>first|exact hk.elim|(simp[dp,dq]at O)
 |output=>
  cases wr<;>cases sy <;>(simp only[dp,dq,dc]at O; subst O; simp[Go.Loc.isMemory]at hm)
 |goroutines=>exact h.elim
theorem pP.grow(h:pP t g m)(U:m.Le gE)(Y:Q9 t B)(hn:∀r b,gE.blk r=some b->m.blk r=some b\/B<=b):pP t g gE:=by
 intro p a b r O hb hr hw;rcases hn r b hr with x|x
 .exact h p a b r O hb x λy=>hw ((U.loose r b x).2 y)
 .have:=Y p a b O hb;omega
theorem ii{p:Nat}{a:Touch}(h:cb (t++u) p=some a):(p<t.size/\cb t p=some a)\/∃op,op∈u/\(t++u)[p]?=some op/\op.act.touch?=some a:=by
 obtain⟨op,O,Y⟩:=touch_of h;rcases getElem?_append_cases O with⟨h1,U⟩|⟨_,U⟩
 .exact .inl ⟨h1,by rw[touchAt_of U]; exact Y⟩
 .exact .inr ⟨op,U,O,Y⟩
theorem pP.own(h:pP t g m):pP (t++db g fn pos es) g m:=by
 intro p a b r U hb Y hw;rcases ii U with⟨_,O⟩|⟨op,O,h2,_⟩
 .exact(h p a b r O hb Y hw).app _
 .have:=cr h2;obtain⟨e,_,rfl⟩:=bV O;exact this
theorem pP.other(h:pP t g m)(hd:qy m m'){j:Nat}(he:∀e∈es,qY m' e):pP (t++db j fn pos es) g m:=by
 intro p a b r ha hb Y hw;rcases ii ha with⟨_,O⟩|⟨op,O,_,h3⟩
 .exact(h p a b r O hb Y hw).app _
 .obtain⟨e,U,rfl⟩:=bV O
  have hm:a.loc.isMemory=true:=by
   cases hl:a.loc<;>rw[hl]at hb<;>simp[nB]at hb<;>rfl
  obtain⟨b',r',g1,g2,g3⟩:=oI (he e U) h3 hm;rw[hb]at g1;cases g1;obtain⟨l1,l2⟩:=hd r r' b Y g2;rw[hw l1]at g3;exact absurd (g3 l2) (by simp)
theorem pP.clean(h:pP t g m)(hc:∀said,¬bT said t)(he:∀e∈es,qY m e):∀said,¬bT said (t++db g fn pos es):=by
 intro said;refine ck (hc said) (λop O=>by obtain⟨e,_,rfl⟩:=bV O; rfl) λi a ha op O b hb U=>?_;obtain⟨e,Y,rfl⟩:=bV O;obtain⟨h1,h2,h3,_⟩:=U;obtain⟨b',r,g1,g2,g3⟩:=oI (he e Y) hb (h1▸h2);refine h i a b' r ha (by rw[h1]; exact g1) g2 λhl=>?_;rcases h3 with x|x
 .exact x
 .rw[g3 hl]at x;cases x
theorem Q9.own(h:Q9 t B){w:World}{wl:World}(Y:WR m wl w)(hB:B<=w.heap.size)(he:∀e∈es,qY m e):Q9 (t++db g fn pos es) w.heap.size:=by
 intro p a b ha hb;rcases ii ha with⟨_,O⟩|⟨op,O,_,h3⟩
 .exact cA (h p a b O hb) hB
 .obtain⟨e,U,rfl⟩:=bV O
  have hm:a.loc.isMemory=true:=by
   cases hl:a.loc<;>rw[hl]at hb<;>simp[nB]at hb<;>rfl
  obtain⟨b',r',g1,g2,g3⟩:=oI (he e U) h3 hm;rw[hb]at g1;cases g1;exact(Y.lt g2).2
end
end
section
open Go.Conc
def Jl{α:Type}(r:α->α->Prop)(n:Nat)(O q:Nat->α):Prop:=∃i,i<n/\r (O i) (q i)/\∀j,j≠i->O j=q j
theorem PQ{α:Type}{r:α->α->Prop}:∀(n:Nat)(q:Nat->α),(∀i,i<n->Acc r (q i))->Acc (Jl r n) q:=by
 intro n
 induction n with
 |zero=>exact λq _=>.intro q λq' ⟨i,hi,_⟩=>absurd hi (Nat.not_lt_zero i)
 |succ n ih=>
  have key:∀x,Acc r x->∀q,q n=x->(∀i,i<n->Acc r (q i))->Acc (Jl r (n+1)) q:=by
   intro x hx
   induction hx with
   |intro x _ aa=>
    intro q Y ji;have U:=ih q ji;revert Y ji
    induction U with
    |intro q _ ab=>
     intro Y ji;refine .intro q λq' ⟨i,hi,hr,hj⟩=>?_;by_cases e:i=n
     .subst e;exact aa _ (Y▸hr) q' rfl λj O=>by rw[hj j (Nat.ne_of_lt O)]; exact ji j O
     .have U:i<n:=by omega
      refine ab q' ⟨i,U,hr,hj⟩ (by rw[hj n (dH e)]; exact Y) λj O=>?_;by_cases ej:j=i
      .subst ej;exact(ji j O).inv hr
      .rw[hj j ej]; exact ji j O
  exact λq h=>key _ (h n (Nat.lt_succ_self n)) q rfl λi hi=>h i (Nat.lt_succ_of_lt hi)
section
variable {m gE m':Ren} {w w₁ wl wl':World} {B:Nat}
theorem qy.grow(h:qy m m')(U:m.Le gE)(Y:jj m gE w w₁)(hw:WR m' wl' w):qy gE m':=by
 intro r r' b h1 O;rcases Y.news r b h1 with x|x
 .obtain⟨a,b⟩:=h r r' _ x O;exact⟨(U.loose r _ x).2 a,b⟩
 .have:=(hw.lt O).2;omega
theorem jj.leaves(U:jj m gE w w₁)(hd:qy m m')(hw:WR m' wl' w):∀r r',m'.blk r=some r'->w₁.heap[r']?=w.heap[r']?:=by
 intro r r' hb;by_cases Y:∃s,m.blk s=some r'
 .obtain⟨s,O⟩:=Y;exact U.still s r' O (hd s r r' O hb).1
 .exact U.old r' (hw.lt hb).2 λs O=>Y ⟨s,O⟩
theorem nw(Y:WR m wl w){c:Nat}{o:Obj}(O:∃a b x s y t,w.heap[c]?=some (.chan a b x s y t)):∀r r',m.blk r=some r'->(w.heap.setIfInBounds c o)[r']?=w.heap[r']?:=by
 intro r r' hb;refine bm ?_;rintro rfl;obtain⟨x,x',_,U,h3⟩:=Y.obj r _ hb;obtain⟨a,b,y,s,z,t,O⟩:=O;rw[O]at U;cases U;cases h3
theorem jj.chan(Y:jj m gE w w₁)(hw:WR m wl w){c:Nat}{a:Nat}{b:Array Value}{x:Bool}{s y:Nat}{t:Bool}(O:w.heap[c]?=some (.chan a b x s y t)):w₁.heap[c]?=some (.chan a b x s y t):=by
 rw[Y.old c (mF O) λr hr=>?_]
 .exact O
 .obtain⟨o,o',_,U,h3⟩:=hw.obj r _ hr;rw[O]at U;cases U;cases h3
end
end
section
open Go.Conc
variable {fr':Frame} {cs':List Frame} {r:Nat} {w':World}
section
variable {P:Program} {m:Ren} {T:List Frame} {gl:Nat->Prop} {st:Bool} {Stop:LS->Prop}
def Holds(S:LS)(r:Nat)(l:List Value):Prop:=∃cap buf jU O tm,S.w.heap[r]?=some (.chan cap buf false jU O tm)/\buf.toList=l
theorem Holds.one{S:LS}{l O:List Value}(h:Holds S r l)(Y:Holds S r O):l=O:=by
 obtain⟨_,_,_,_,_,h1,rfl⟩:=h;obtain⟨_,_,_,_,_,U,rfl⟩:=Y;rw[h1]at U;cases U;rfl
theorem yD.U2{S S':LS}(O:yD P gl st m T S fr' cs' w')(hf:¬Fin P S)(h:GC P S S'):∃gE iH iI w₁,yD P gl st gE T S' iH iI w₁/\gE.ch=m.ch/\∀r r' l,m.ch r=some r'->Holds S r l->Holds S' r l\/∃v,Holds S' r (l++[v]):=by
 obtain⟨al,af,ag,_⟩:=align O.world;have hn:=nz O.kK O.stack
 cases h with
 |go h=>
  obtain⟨gE,f,c,lV,es,_,h1,h2,h3,h4,_⟩:=AE (main':=true) O.rL O.stack hn (λa b c d=>hf ⟨a,b,c,d⟩) af ag h;refine⟨gE,f,c,lV,⟨O.rL.mono h1,by rw[h1.kK]; exact O.kK,λr r' hr=>by rw[h4.oY O.kK]at hr; rw[h4.n5]; exact O.op r r' hr,h2,h3⟩,h4.oY O.kK,λr r' l hr hl=>.inl ?_⟩;obtain⟨cap,buf,jU,U,tm,hx⟩:=O.op r r' hr;have a:=(O.world.n5 r _ hx).1;have b:=(h3.n5 r _ (by rw[h4.n5]; exact hx)).1;have:=hl.one ⟨cap,buf,jU,U,tm,a,rfl⟩;exact⟨cap,buf,jU,U,tm,b,this.symm⟩
 |@send _ _ _ f0 c0 r0 v z w₁ es cap buf jU U tm h hc hb=>
  obtain⟨f1,c1,gE,ai,aj,k',lV,am,e0,_,_,h1,h2,h3,h4,h5,_⟩:=wi (main':=true) O.rL O.stack hn af ag h;obtain⟨rfl,rfl⟩:f0=f1/\c0=c1:=⟨congrArg dB e0,congrArg dA e0⟩;have Y:=(h2.rX).finish (VR.undef gE)
  have ak:Open (gE.put r0 (.chan cap (buf.push v) false (jU+1) U tm)):=by
   intro s s' ac;by_cases e:s=r0
   .exact⟨cap,buf.push v,jU+1,U,tm,by simp[Ren.put,e]⟩
   .have ac:gE.ch s=some s':=ac;rw[h5.oY O.kK]at ac;obtain⟨a,b,c,d,e',hx⟩:=O.op s s' ac;exact⟨a,b,c,d,e',by simp only[Ren.put,e,if_false]; rw[h5.n5]; exact hx⟩
  refine⟨gE.put r0 _,ai.finish dR,aj,lV,⟨(O.rL.mono h1).mono (Ren.qS ..),?_,ak,?_,h4.put ⟨_,_,_,_,_,_,rfl⟩ ⟨_,_,_,_,_,_,hc⟩⟩,h5.oY O.kK,λr r' l hr hl=>?_⟩
  .show ¬gE.kK;rw[h1.kK]; exact O.kK
  .exact(h2.set (.refl gE) Y.1 Y.2.1 Y.2.2 (iY ..) (km ..)).mono (Ren.qS ..)
  .obtain⟨ad,ae,aa,ab,ah,hx⟩:=O.op r r' hr;have a:=(O.world.n5 r _ hx).1;have b:=(h4.n5 r _ (by rw[h5.n5]; exact hx)).1;have el:=hl.one ⟨ad,ae,aa,ab,ah,a,rfl⟩;by_cases e:r=r0
   .subst e;rw[hc]at b;cases b;refine .inr ⟨v,cap,buf.push v,jU+1,U,tm,?_,by rw[el]; simp⟩;simp[mF hc]
   .refine .inl ⟨ad,ae,aa,ab,ah,?_,el.symm⟩;rw[bm (dH e)];exact b
theorem Au{r':Nat}{L:List Value}:∀(n:Nat){m:Ren}{S:LS}{fr':Frame}{cs':List Frame}{w':World},yD P gl st m T S fr' cs' w'->m.ch r=some r'->∀{O:LS},bA P n S.m=.next O.m->O.cs≠[]->Holds O r L->∀{l},Holds S r l->l <+: L
 |0,m,S,fr',cs',w',U,Y,O,h,hc,hL,l,hl=>by
  simp only[bA,dz]at h
  obtain rfl:=LS.LN h
  rw[hl.one hL];exact List.prefix_refl _
 |n+1,m,S,fr',cs',w',U,Y,O,h,hc,hL,l,hl=>by
  have hf:=λx=>CX U.stack x n hc h;obtain⟨S',ho,h2⟩:=DI U.rL U.kK U.op U.stack U.world h;obtain⟨gE,f,c,w,aa,ab,hh⟩:=U.U2 hf ho;have ih:=fun {l}=>Au (L:=L) n aa (by rw[ab]; exact Y) h2 hc hL (l:=l);rcases hh r r' l Y hl with x|⟨v,x⟩
  .exact ih x
  .exact(List.prefix_append l _).trans (ih x)
theorem oc.prefix{S:LS}(U:yD P gl st m T S fr' cs' w')(Y:oc P Stop S){r':Nat}(hr:m.ch r=some r'){L:List Value}(hL:∀O,Stop O->Holds O r L){l:List Value}(hl:Holds S r l):l <+: L:=by
 obtain⟨n,O,h1,h2,h3⟩:=Y _ (Kz _);exact Au n U hr (S:=S) h1 h3 (hL _ h2) hl
theorem sx.next{S:LS}{r':Nat}{v v':Value}(h:sx P gl st m T S r r' v v' fr' cs' w')(hH:oc P Stop S){L:List Value}(hL:∀O,Stop O->Holds O r L):∃l,Holds S r (l++[v])/\(l++[v]) <+: L:=by
 obtain⟨o,hs⟩:=h.done;obtain⟨f0,wl,cap,buf,jU,U,tm,h1,h2,h3,h4,_⟩:=h.uv
 have Y:Holds S r (buf.toList++[v]):=by
  rw[h1];refine⟨cap,buf.push v,jU+1,U,tm,?_,by simp⟩;simp[mF h4]
 exact⟨_,Y,hH.prefix hs (r':=r') h.ch hL Y⟩
end
end
section
open Go.Conc
variable {buf:Array Value} {tm:Bool} {fr ps:Frame} {c cap r s:Nat} {w:World}
def Lv(P:Program):Nat->Goroutine->Prop
 |0,g=>g.status=.finished
 |n+1,g=>g.status=.finished\/(g.status=.running/\∃g',(∀w,bx P false g w=.go g' w #[])/\Lv P n g')
theorem Lv.status{P:Program}{n:Nat}{g:Goroutine}(h:Lv P n g):g.status=.running\/g.status=.finished:=by
 cases n with
 |zero=>exact .inr h
 |succ n=>exact h.elim .inr λx=>.inl x.1
theorem Lv.Hc{P:Program}:∀{n:Nat}{g:Goroutine},Lv P n g->QuitsD P n 0 g
 |0,_,h=>⟨h,rfl⟩
 |_+1,_,.inl h=>.inl ⟨h,rfl⟩
 |_+1,_,.inr ⟨h,g',O,U⟩=>.inr ⟨h,g',#[],by simp,O,U.Hc⟩
section
variable {P:Program}
theorem Ko(a:Array bO)(t:bO)(cs:Array Bool)(O:w.heap[c]?=some (.chan cap buf false s r tm)) :
  (invoke (.builtin .close a t cs) #[.chan (some c)]).runT P w #[]=(.ok (.value (.tuple #[])) {w with heap:=w.heap.setIfInBounds c (.chan cap buf true s r tm)},#[⟨.obj c,false,true⟩,⟨.obj c,true,true⟩]):=by
 obtain⟨k,e,U⟩:∃k,invoke (.builtin .close a t cs) #[.chan (some c)]=Sem.getObj c k/\k (.chan cap buf false s r tm)=Sem.setObj c .. := ⟨_,rfl,rfl⟩;rw[e]
 have Y:(Sem.getObj c k).runT P w #[]=(k (.chan cap buf false s r tm)).runT P w (#[].push ⟨.obj c,false,true⟩):=by
  rw[cQ];simp only[O];rfl
 rw[Y,U];rw[cQ];simp only[O];rfl
theorem closing{a:Array bO}{t:bO}{cs:Array Bool}(hm:fr.mode=.returning)(U:fr.defers=[⟨.builtin .close a t cs,#[.chan (some c)]⟩])(Y:(P.funcs[fr.fn]?).any (·.norace)=false)(hc:w.heap[c]?=some (.chan cap buf false s r tm)) :
  bx P false (G fr [ps]) w=.go (G {fr with defers:=[]} [ps]) {w with heap:=w.heap.setIfInBounds c (.chan cap buf true s r tm)} #[⟨.obj c,false,true⟩,⟨.obj c,true,true⟩]:=by
 have e:bx P false (G fr [ps]) w=b5 P false fr [ps] none w:=by unfold bx; simp only[G,hm]
 rw[e];obtain⟨fn,tmps,todo,defers,mode,O,round⟩:=fr;subst hm U;unfold b5;dsimp only;unfold bC;rw[Ko a t cs hc];simp[bH,Y,cL,G]
theorem EB{fn:Func}(hm:fr.mode=.returning)(hd:fr.defers=[])(hk:fr.kind=.deferred)(hf:P.funcs[fr.fn]?=some fn)(hr:fn.results=#[])(O:ps.mode=.panicking [bG])(Y:ps.defers=[])(ab:P.funcs[ps.fn]?=none)(aa:ps.todo=[]):Lv P 2 (G fr [ps]):=by
 refine .inr ⟨rfl,G ps [],λw=>?_,.inr ⟨rfl,{frame:=ps,callers:=[],status:=.finished,dying:=none},λw=>?_,rfl⟩⟩
 .have e:bx P false (G fr [ps]) w=b5 P false fr [ps] none w:=by unfold bx; simp only[G,hm]
  rw[e]
  have U:(results fn fr.tmps).runT P w #[]=(.ok (.tuple #[]) w,#[]):=by
   rw[Sem.runT_eq,results_none hr _ P w,events_results_none hr ..]
  unfold b5;simp only[hd,hm,hf,U];unfold b4;simp only[hk,O,bG];simp[bH,cL,G]
 .have e:bx P false (G ps []) w=b5 P false ps [] none w:=by unfold bx; simp only[G,O]
  rw[e];unfold b5;simp[Y,O,dg,aa,bG]
end
end
section
open Go.Conc
section
variable {P:Program} {m:Ren} {T:List Frame} {gl:Nat->Prop} {st:Bool} {Stop:LS->Prop}
theorem yD.Tz{S:LS}{fr':Frame}{cs':List Frame}{w':World}(hs:yD P gl st m T S fr' cs' w'){rd r c:Nat}(h1:S.cs=[door P])(h2:S.fr.mode=.returning)(h3:S.fr.defers=[⟨.collected rd,#[.chan (some r)]⟩])(hd:m.dead rd)(hr:m.ch r=some c) :
  fr'.mode=.returning/\cs'=T/\(∃a t cs,fr'.defers=[⟨.builtin .close a t cs,#[.chan (some c)]⟩])/\Ek fr'.kind T/\fr'.fn=S.fr.fn:=by
 have hS:=hs.stack;have hF:=hS.rX;have O:=hF.mode;have U:=hF.defers;rw[h2]at O;rw[h3]at U;rw[h1]at hS;obtain⟨fn,tm,td,df,md,kd,ad⟩:=fr'
 have Y:cs'=T/\Ek kd T:=by
  cases hS with
  |one _ _ hb _=>exact⟨rfl,hb⟩
  |cons _ _ _ h=>cases h
 cases O;refine⟨rfl,Y.1,?_,Y.2,hF.fn⟩
 cases U with
 |@cons _ d' _ l' hx aa=>
  cases aa;obtain⟨ae,ac⟩:=d';have ht:=hx.target;have ha:=hx.args
  have ab:ac=#[.chan (some c)]:=by
   obtain⟨al⟩:=ac
   cases ha with
   |cons hv hn=>
    cases hn
    cases hv with
    |chan hb=>
     rw[hr]at hb;cases hb;rfl
  subst ab
  cases ht with
  |collected hb=>
   rw[(hs.world.dead rd hd).1]at hb;cases hb
  |mark a t cs _=>exact⟨a,t,cs,rfl⟩
end
end
section
open Go.Conc
section
variable {P:Program} {gs:Array Goroutine} {w w₁:World} {sl:Option (Nat×Nat)} {i:Nat} {g uA:Goroutine} {es:Array Event} {cases:Array CommCase} {shape:CommShape} {blocking:Bool}
theorem MQ(n:Nat)(O:0<n)(w:World):∃a d,a<n/\(choose (.select n)).run P w=.ok a (w.at d):=by
 by_cases U:n<=1
 .exact⟨0,w.drawn,O,by simp[choose,cM,dI,U,World.at]⟩
 .refine⟨(Question.select n).cut (w.tape w.drawn (.select n)),w.drawn+1,?_,by simp[choose,cM,dI,U,World.at]⟩;exact Nat.mod_lt _ O
def lU(w:World)(gs:Array Goroutine)(cases:Array CommCase):List (Nat×CommCase×List Way):=(cases.zipIdx.toList.map λ(c,k)=>(k,c,ways w gs c)).filter λ(_,_,ws)=>!ws.isEmpty
theorem mem_ready{gs:Array Goroutine}{x:Nat×CommCase×List Way}(h:x∈lU w₁ gs cases):cases[x.1]?=some x.2.1/\x.2.2=ways w₁ gs x.2.1/\x.2.2≠[]:=by
 unfold lU at h;rw[cY,cZ]at h;obtain⟨⟨⟨cc,k⟩,hm,rfl⟩,Y⟩:=h;obtain⟨j,U⟩:=cU.1 hm;simp at U;obtain⟨_,O,rfl,rfl⟩:=U;refine⟨O,rfl,λe=>?_⟩;have e:ways w₁ gs _=[]:=e;simp[e]at Y
theorem QE{gs:Array Goroutine}{k:Nat}{cc:CommCase}(O:cases[k]?=some cc)(U:ways w₁ gs cc≠[]):lU w₁ gs cases≠[]:=by
 have:(k,cc,ways w₁ gs cc)∈lU w₁ gs cases:=by
  unfold lU;rw[cY,cZ];refine⟨⟨(cc,k),?_,rfl⟩,?_⟩
  .refine cU.2 ⟨k,?_⟩;simp[O]
  .cases e:ways w₁ gs cc with
   |nil=>exact absurd e U
   |cons a l=>rfl
 intro e;rw[e]at this;cases this
theorem Cz(hi:gs[i]?=some g)(h:bx P (i==0) g w=.comm uA cases blocking shape w₁ es)(aa:∀cc∈cases,c4 w₁ cc=false)
  (ab:∀(k:Nat)cc,cases[k]?=some cc->ways w₁ (gs.setIfInBounds i ph) cc=[]\/(∃c z cap buf s r tm,cc=bX c z/\w₁.heap[c]?=some (.chan cap buf true s r tm)/\ways w₁ (gs.setIfInBounds i ph) cc=[.closed])\/(∃c z cap buf cl s r tm j q,cc=bX c z/\w₁.heap[c]?=some (.chan cap buf cl s r tm)/\ways w₁ (gs.setIfInBounds i ph) cc=[.partner j q]))
  (af:∃(k:Nat)(cc:CommCase),cases[k]?=some cc/\ways w₁ (gs.setIfInBounds i ph) cc≠[]) :
  (∃(k:Nat)(c:Nat)(z:Value)(d:Nat),cases[k]?=some (bX c z)/\ways w₁ (gs.setIfInBounds i ph) (bX c z)=[.closed]/\bN P (bY gs w sl) i=(.next (bY (gs.setIfInBounds i (uA.finishComm P cases shape k z false)) (w₁.at d) sl),db i g.frame.fn g.frame.place es++#[{g:=i,fn:=uA.frame.fn,pos:=uA.frame.place,act:=.recvClosed c}]))\/
  (∃(k:Nat)(c:Nat)(z:Value)(d j q cap s r:Nat)(buf:Array Value)(cl tm:Bool),cases[k]?=some (bX c z)/\w₁.heap[c]?=some (.chan cap buf cl s r tm)/\ways w₁ (gs.setIfInBounds i ph) (bX c z)=[.partner j q]/\
    bN P (bY gs w sl) i=(.next (bY ((finishPartner P (gs.setIfInBounds i ph) j q dR).setIfInBounds i (uA.finishComm P cases shape k (bL (gs.setIfInBounds i ph) j q) true)) {w₁.at d with heap:=w₁.heap.setIfInBounds c (.chan cap buf cl (s+1) (r+1) tm)} sl),
     db i g.frame.fn g.frame.place es++#[{g:=j,fn:=((gs.setIfInBounds i ph).getD j default).frame.fn,pos:=((gs.setIfInBounds i ph).getD j default).frame.place,act:=.send c s},{g:=i,fn:=uA.frame.fn,pos:=uA.frame.place,act:=.recv c r cap},{g:=j,fn:=((gs.setIfInBounds i ph).getD j default).frame.fn,pos:=((gs.setIfInBounds i ph).getD j default).frame.place,act:=.sendDone c s},{g:=i,fn:=uA.frame.fn,pos:=uA.frame.place,act:=.recvDone c r}])):=by
 obtain⟨k0,ak,ag,ah⟩:=af;have ac:=QE ag ah
 have ad:0<(lU w₁ (gs.setIfInBounds i ph) cases).length:=by
  cases hx:lU w₁ (gs.setIfInBounds i ph) cases with
  |nil=>exact absurd hx ac
  |cons a l=>simp
 obtain⟨a,d,ha,ai⟩:=MQ (P:=P) _ ad w₁;obtain⟨x,hx⟩:∃x,(lU w₁ _ cases)[a]?=some x:=⟨_,List.getElem?_eq_getElem ha⟩;have ae:=mem_ready (cU.2 ⟨a,hx⟩);obtain⟨k,cc,ws⟩:=x;obtain⟨h1,h2,h3⟩:=ae;have U:(lU w₁ (gs.setIfInBounds i ph) cases).getD a (0,default,[])=(k,cc,ws):=by simp[List.getD,hx]
 have Y:(lU w₁ (gs.setIfInBounds i ph) cases).isEmpty=false:=by
  cases hx:lU w₁ _ cases with
  |nil=>exact absurd hx ac
  |cons a l=>rfl
 rw[cv hi h];unfold bz;rw[if_neg (by rw[dy]; exact any_ill aa)]
 have O:∀(f:Nat->Sem (Nat×CommCase×Way)),((choose (.select (lU w₁ (gs.setIfInBounds i ph) cases).length)).bind f).run P w₁=(f a).run P (w₁.at d):=by
  intro f;rw[cO,ai];rfl
 have aj:(w₁.at d).heap=w₁.heap:=rfl;rcases ab k cc h1 with e|⟨c,z,cap,buf,s,r,tm,rfl,hc,e⟩|⟨c,z,cap,buf,cl,s,r,tm,j,q,rfl,hc,e⟩
 .rw[e]at h2;exact absurd h2 h3
 .rw[e]at h2;subst h2;refine .inl ⟨k,c,z,d,h1,e,?_⟩;have hf:((cases.zipIdx.toList.map λ(c,k)=>(k,c,ways w₁ (gs.setIfInBounds i ph) c)).filter _)=lU w₁ _ cases:=rfl;simp only[hf,Y,dx,if_false,bind,O,U];simp[choose,cM,dI,bind,cP,pure,bX,bY]
 .rw[e]at h2;subst h2;refine .inr ⟨k,c,z,d,j,q,cap,s,r,buf,cl,tm,h1,hc,e,?_⟩;have hf:((cases.zipIdx.toList.map λ(c,k)=>(k,c,ways w₁ (gs.setIfInBounds i ph) c)).filter _)=lU w₁ _ cases:=rfl;simp only[hf,Y,dx,if_false,bind,O,U];simp[choose,cM,dI,bind,cP,pure,bX,bY,aj,hc]
end
end
section
open Go.Conc
variable {r z:MemOp} {i p pc pr:Nat}
def nF(t:b6):Prop:=∀op∈t,op.act≠.mark .disable/\op.act≠.mark .enable
section
variable {t u:b6}
theorem nF.append(U:nF t)(Y:nF u):nF (t++u):=λop O=>(bv.1 O).elim (U op) (Y op)
theorem nF.deaf(h:nF t)(g:Nat):∀i,t.deaf g i=0:=by
 intro i
 induction i with
 |zero=>rfl
 |succ i U=>
  unfold b6.deaf;split
  .rename_i O; exact absurd rfl (h _ (cw O)).1
  .rename_i O; exact absurd rfl (h _ (cw O)).2
  .exact U
theorem nF.heard(h:nF t){op:MemOp}(hi:t[i]?=some op):t.heard i:=⟨op.g,by simp[dO,hi],h.deaf ..⟩
theorem MB(Y:nF t){c:Nat}(hz:t[pc]?=some z)(O:z.act=.close c)(hr:t[pr]?=some r)(U:r.act=.recvClosed c):bP t pc pr:=
 .single (.inr ⟨.closed (c:=c) (by simp[dN,hz,O]) (by simp[dN,hr,U]),Y.heard hz,Y.heard hr⟩)
theorem M4(hw:nF t){c:Nat}(hz:t[pc]?=some z)(O:z.act=.close c)(Y:t[pr]?=some r)(U:r.act=.recvClosed c)(hp:Before t p pc):cn t r.g p:=
 ⟨pr,r,Y,rfl,.inr (hp.hb (MB hw hz O Y U))⟩
theorem JU(hw:nF t){c:Nat}(Y:t[pc]?=some z)(O:z.act=.close c)(hr:t[pr]?=some r)(U:r.act=.recvClosed c){y:MemOp}(hy:t[p]?=some y)(hg:y.g=z.g)(hp:p<=pc):cn t r.g p:=by
 refine M4 hw Y O hr U ?_;rcases Nat.lt_or_eq_of_le hp with h|h
 .exact .inr (hb_po h hy Y hg)
 .exact .inl h
theorem FK{n:Nat}{a b:MemOp}(hw:nF (t++#[a,b]))(ha:a.g=i)(U:a.act=.go n)(hb:b.g=n)(Y:b.act=.start)(hp:cn t i p):cn (t++#[a,b]) n p:=by
 have h1:(t++#[a,b])[t.size]?=some a:=by simp
 have O:(t++#[a,b])[t.size+1]?=some b:=by simp
 have e1:=hp.hb_new (cB _) h1 ha;have e2:bP .. := .single (.inr ⟨.spawn (child:=n) (by simp[dN,h1,U]) (by simp[dN,O,Y]) (by simp[dO,O,hb]),hw.heard h1,hw.heard O⟩);exact⟨t.size+1,b,O,hb,.inr (e1.trans e2)⟩
theorem pP.mute{g:Nat}{m:Ren}(h:pP t g m)(hu:∀op∈u,op.act.touch?=none):pP (t++u) g m:=by
 intro p x q r hx hq hr O;rcases ii hx with⟨_,U⟩|⟨op,U,_,Y⟩
 .exact(h p x q r U hq hr O).app u
 .rw[hu op U]at Y; cases Y
end
end
section
open Go.Conc
def om(t:b6)(A:Nat->Prop):Prop:=∀p a,cb t p=some a->a.loc.isMemory=true->cn t 0 p\/∃op,t[p]?=some op/\A op.g
section
variable {t u:b6} {A A':Nat->Prop}
theorem om.mono(h:om t A)(O:∀i,A i->A' i):om t A':=λp a U hm=>(h p a U hm).imp id λ⟨op,Y,h2⟩=>⟨op,Y,O _ h2⟩
theorem om.app(h:om t A)(hu:∀op∈u,op.act.touch?=none\/op.g=0\/A op.g):om (t++u) A:=by
 intro p a ha hm;rcases ii ha with⟨hp,O⟩|⟨op,O,U,Y⟩
 .rcases h p a O hm with x|⟨op,x,y⟩
  .exact .inl (x.app u)
  .exact .inr ⟨op,by rw[cg hp]; exact x,y⟩
 .rcases hu op O with x|x|x
  .rw[x]at Y; cases Y
  .have:=cr U;rw[x]at this;exact .inl this
  .exact .inr ⟨op,U,x⟩
theorem om.join(h:om t A)(hw:nF t){j pc pr c:Nat}{z r:MemOp}(hz:t[pc]?=some z)(U:z.g=j)(Y:z.act=.close c)(hr:t[pr]?=some r)(aa:r.g=0)(ab:r.act=.recvClosed c)(O:∀p a op,cb t p=some a->t[p]?=some op->op.g=j->p<=pc):om t λi=>A i/\i≠j:=by
 intro p a ha hm;rcases h p a ha hm with x|⟨op,x,y⟩
 .exact .inl x
 .by_cases e:op.g=j
  .have:=JU hw hz Y hr ab x (e.trans U.symm) (O p a op ha x e);rw[aa]at this;exact .inl this
  .exact .inr ⟨op,x,y,e⟩
theorem om.over(h:om t λ_=>False):t.HandedOver:=by
 intro i g hg O hc;obtain⟨x,hx,hm,_⟩:=hc;rcases h i x hx hm with⟨q,z,Y,h2,U⟩|⟨_,_,h⟩
 .refine⟨q,by simp[dO,Y,h2],?_⟩;rcases U with rfl|U
  .exact absurd (by simpa[dO,Y,h2]using hg.symm) O
  .exact U
 .exact h.elim
theorem PS{m:Ren}{e:Event}(h:qY m e):dp e≠.mark .disable/\dp e≠.mark .enable:=by
 obtain⟨loc,wr,O⟩:=e
 cases loc with
 |mark x=>
  have U:=h;cases x<;>first|exact U.elim|simp[dp]
 |_=>cases wr<;>cases O<;>simp[dp]
theorem Dq(h:nF t){m:Ren}{g:Nat}{fn:bJ}{pos:String}{es:Array Event}(Y:∀e∈es,qY m e):nF (t++db g fn pos es):=by
 refine h.append λop O=>?_;obtain⟨e,U,rfl⟩:=bV O;exact PS (Y e U)
end
end
section
open Go.Conc
structure pC where
 gl:Nat->Prop
 T:List Frame
 Stop:LS->Prop
 r:Nat
 c:Nat
 rd:Nat
 L:List Value
 nH:Nat->Nat->Obj->Prop
structure pC.Ok(P:Program)(J:pC):Prop where
 blind:As J.Stop
 holds:∀S,J.Stop S->Holds S J.r J.L
 U6:∀S,J.Stop S->S.cs=[door P]/\S.fr.mode=.returning/\S.fr.defers=[⟨.collected J.rd,#[.chan (some J.r)]⟩]/\∃fn,P.funcs[S.fr.fn]?=some fn/\fn.results=#[]/\fn.norace=false
 back:∀S,J.Stop S->∀r b o,J.nH r b o->S.w.heap[r]?=some o/\∀(m:Go.Proofs.YtocbogeoffeolaaGreatDoor.Ren)o',OR m o o'->o'=o
 VQ:∃ps,J.T=[ps]/\ps.mode=.panicking [bG]/\ps.defers=[]/\P.funcs[ps.fn]?=none/\ps.todo=[]
structure pC.Ren(J:pC)(m:Go.Proofs.YtocbogeoffeolaaGreatDoor.Ren):Prop where
 ch:m.ch J.r=some J.c
 only:∀r r',m.ch r=some r'->r=J.r
 dead:m.dead J.rd
 nH:∀r b o,J.nH r b o->m.blk r=some b
theorem pC.Ren.le{J:pC}{m gE:Go.Proofs.YtocbogeoffeolaaGreatDoor.Ren}(h:J.Ren m)(O:m.Le gE)(U:gE.ch=m.ch):J.Ren gE:=⟨by rw[U]; exact h.ch,λr r' x=>by rw[U]at x; exact h.only r r' x,by rw[O.dead]; exact h.dead,λr b o x=>O.blk r b (h.nH r b o x)⟩
structure pC.Act(P:Program)(J:pC)(m:Go.Proofs.YtocbogeoffeolaaGreatDoor.Ren)(S:LS)(n:Nat)(g:Goroutine)(w:World):Prop where
 pA:J.Ren m
 pW:oc P J.Stop S
 uv:∃fr' cs',g=G fr' cs'/\yD P J.gl false m J.T S fr' cs' w
 jU:∃l,Holds S J.r l/\l.length=n
structure pC.ML(P:Program)(J:pC)(m:Go.Proofs.YtocbogeoffeolaaGreatDoor.Ren)(S:LS)(n:Nat)(v':Value)(g:Goroutine)(w:World):Prop where
 pA:J.Ren m
 pW:oc P J.Stop S
 uv:∃v fr' cs',g=G fr' cs'/\sx P J.gl false m J.T S J.r J.c v v' fr' cs' w
 jU:∃l,Holds S J.r l/\l.length=n+1
section
variable {P:Program} {J:pC} {m:Go.Proofs.YtocbogeoffeolaaGreatDoor.Ren} {S:LS} {n:Nat} {g:Goroutine} {w:World}
theorem pC.ML.value(hJ:J.Ok P){U:Value}(h:J.ML P m S n U g w):∃v,J.L[n]?=some v/\VR m v U:=by
 obtain⟨v,fr',cs',_,Y⟩:=h.uv;obtain⟨l,hl,hn⟩:=h.jU;obtain⟨l0,h1,h2⟩:=Y.next h.pW hJ.holds;have e:=hl.one h1;subst e;have O:=by simpa using hn
 refine⟨v,?_,Y.val⟩;obtain⟨tl,e⟩:=h2;rw[<-e,<-O];simp
theorem pC.ML.done{O:Value}(h:J.ML P m S n O g w):∃gE,m.Le gE/\gE.blk=m.blk/\gE.loose=m.loose/\J.Act P gE S (n+1) (bW g dR) w:=by
 obtain⟨v,fr',cs',rfl,U⟩:=h.uv;obtain⟨o,Y⟩:=U.done;exact⟨m.put _ o,Ren.qS ..,rfl,rfl,h.pA.le (Ren.qS ..) rfl,h.pW,⟨_,_,rfl,Y⟩,h.jU⟩
theorem pC.Act.stands(U:J.Ok P)(h:J.Act P m S n g w)(O:J.Stop S):n=J.L.length/\∃fr ps a t cs,g=G fr [ps]/\fr.mode=.returning/\fr.defers=[⟨.builtin .close a t cs,#[.chan (some J.c)]⟩]/\(P.funcs[fr.fn]?).any (·.norace)=false/\Lv P 2 (G {fr with defers:=[]} [ps]):=by
 obtain⟨fr',cs',rfl,hs⟩:=h.uv;obtain⟨l,hl,rfl⟩:=h.jU;obtain⟨f1,f2,f3,fn,f4,f5,f6⟩:=U.U6 S O;obtain⟨ps,Y,p1,p2,p3,p4⟩:=U.VQ;obtain⟨g1,g2,⟨a,t,cs,g3⟩,g4,g5⟩:=hs.Tz f1 f2 f3 h.pA.dead h.pA.ch;refine⟨by rw[hl.one (U.holds S O)],fr',ps,a,t,cs,by rw[g2,Y],g1,g3,by rw[g5,f4]; simp[f6],?_⟩
 have hk:fr'.kind=.deferred:=by
  rcases g4 with⟨_,h⟩|⟨h,_⟩
  .exact absurd p1 (h ps Y)
  .exact h
 exact EB (fn:=fn) g1 rfl hk (by rw[g5]; exact f4) f5 p1 p2 p3 p4
end
end
section
open Go.Conc
inductive pC.Next(P:Program)(J:pC)(m:Go.Proofs.YtocbogeoffeolaaGreatDoor.Ren)(S:LS)(n:Nat)(w:World):GStep->Prop
 |go {S' gE g₁ w₁ es}:pO P J.Stop S' S->m.Le gE->J.Act P gE S' n g₁ w₁->jj m gE w w₁->(∀e∈es,qY gE e)->pC.Next P J m S n w (.go g₁ w₁ es)
 |send {S' gE g₁ w₁ es v' z'}:pO P J.Stop S' S->m.Le gE->J.ML P gE S' n v' g₁ w₁->jj m gE w w₁->(∀e∈es,qY gE e)->pC.Next P J m S n w (.comm g₁ #[ce J.c v' z'] true .send w₁ es)
section
variable {P:Program} {J:pC} {m:Go.Proofs.YtocbogeoffeolaaGreatDoor.Ren} {S:LS} {n:Nat} {g:Goroutine} {w:World}
theorem ME{T:List Frame}{gl:Nat->Prop}{st:Bool}{Stop:LS->Prop}{S S':LS}{fr':Frame}{cs':List Frame}{w':World}(U:As Stop)(O:yD P gl st m T S fr' cs' w')(Y:oc P Stop S)(hg:pO P Stop S' S){r r':Nat}{l:List Value}(hr:m.ch r=some r')(hl:Holds S r l):Holds S' r l\/∃v,Holds S' r (l++[v]):=by
 obtain⟨hn,τ,hb,ho⟩:=hg;have hf:=(Y.step U ⟨_,_,_,_,_,_,_,O⟩ hn τ hb).1;obtain⟨_,_,_,_,_,_,h⟩:=(O.on τ).U2 (λx=>hf ⟨x.1,x.2⟩) ho;exact h r r' l hr hl
theorem pC.Act.DC(hJ:J.Ok P)(h:J.Act P m S n g w)(hn:¬J.Stop S):pC.Next P J m S n w (bx P false g w):=by
 obtain⟨fr',cs',rfl,Y⟩:=h.uv;obtain⟨l,hl,ac⟩:=h.jU;have hd:=Y.Uu hJ.blind h.pW hn false;generalize bx P false _ w=s at hd
 cases hd with
 |@go S' gE iH iI w₁ es hg U ad hk he=>
  have hh:=(h.pW.own hJ.blind ⟨_,_,_,_,_,_,_,Y⟩ hg).2;refine .go hg U ⟨h.pA.le U (hk.oY Y.kK),hh,⟨_,_,rfl,ad⟩,l,?_,ac⟩ hk he;obtain⟨cap,buf,jU,O,tm,hx⟩:=Y.op _ _ h.pA.ch;have a:=(Y.world.n5 _ _ hx).1;have b:=(ad.world.n5 _ _ (by rw[hk.n5]; exact hx)).1;have e:=hl.one ⟨cap,buf,jU,O,tm,a,rfl⟩;exact⟨cap,buf,jU,O,tm,b,e.symm⟩
 |@send S' gE iH iI w₁ es r r' v v' z' hg U hp hk he=>
  have hh:=(h.pW.own hJ.blind ⟨_,_,_,_,_,_,_,Y⟩ hg).2;have ae:=hk.oY Y.kK;have hr:m.ch r=some r':=by rw[<-ae]; exact hp.ch
  have er:=h.pA.only r r' hr;subst er;have ah:r'=J.c:=by rw[h.pA.ch]at hr; cases hr; rfl
  subst ah;refine .send hg U ⟨h.pA.le U ae,hh,⟨v,_,_,rfl,hp⟩,?_⟩ hk he;obtain⟨l0,h1,_⟩:=hp.next hh hJ.holds;refine⟨l0++[v],h1,?_⟩;rcases ME hJ.blind Y h.pW hg h.pA.ch hl with x|⟨u,x⟩
  .obtain⟨f0,wl,cap,buf,jU,O,tm,e1,_,ai,hc,_⟩:=hp.uv;obtain⟨af,ag,aa,ab,aj,hx⟩:=Y.op _ _ h.pA.ch;have a:=(Y.world.n5 _ _ hx).1;have b:=(ai.n5 _ _ (by rw[hk.n5]; exact hx)).1;have e:=hl.one ⟨af,ag,aa,ab,aj,a,rfl⟩;rw[hc]at b;cases b
   have hS:Holds S' J.r (buf.toList++[v]):=by
    rw[e1];refine⟨cap,buf.push v,jU+1,O,tm,?_,by simp⟩;simp[mF hc]
   have:=hS.one x;rw[e]at this;simp at this
  .have:=h1.one x;simp[this,ac]
end
end
section
open Go.Conc
variable {J:pC} {jl Pd:Nat->Prop} {m:Ren}
def tO(P:Program)(J:pC)(m:Ren)(S:LS):Nat->Goroutine->Prop
 |0,g=>g.status=.running/\∀w,WR m S.w w->∃fr' cs' d es,bx P false g w=.go (G fr' cs') (w.at d) es/\(∀e∈es,qY m e)/\yD P J.gl false m J.T S fr' cs' (w.at d)
 |k+1,g=>g.status=.running/\∀w,WR m S.w w->∃g' d es,bx P false g w=.go g' (w.at d) es/\(∀e∈es,qY m e)/\tO P J m S k g'
inductive iw
 |quit (q:Nat)
 |ended (heard:Bool) (J:pC) (m:Ren) (S:LS) (q:Nat)
 |act (J:pC) (m:Ren) (S:LS) (n:Nat)
 |lO (J:pC) (m:Ren) (S:LS) (n:Nat) (v:Value)
 |start (J:pC) (m:Ren) (S:LS) (k:Nat)
def iw.pA:iw->Option Ren
 |.quit _=>none
 |.ended _ _ m _ _|.act _ m _ _|.lO _ m _ _ _|.start _ m _ _=>some m
def iw.live:iw->Option Ren
 |.quit _|.ended .. => none
 |.act _ m _ _|.lO _ m _ _ _|.start _ m _ _=>some m
def iw.u9:iw->Option pC
 |.quit _=>none
 |.ended _ J _ _ _|.act J _ _ _|.lO J _ _ _ _|.start J _ _ _=>some J
def iw.chan:iw->Option pC
 |.quit _|.ended .. => none
 |.act J _ _ _|.lO J _ _ _ _|.start J _ _ _=>some J
def iw.sum:iw->Option (pC×Nat)
 |.quit _|.ended true .. => none
 |.ended false J _ _ _=>some (J,J.L.length)
 |.act J _ _ n|.lO J _ _ n _=>some (J,n)
 |.start J _ _ _=>some (J,0)
def j8(w:World)(c:Nat)(cl:Bool):Prop:=∃s r,w.heap[c]?=some (.chan 0 #[] cl s r false)
def At(P:Program)(w:World)(t:b6)(i:Nat)(g:Goroutine):iw->Prop
 |.quit q=>Lv P q g
 |.ended _ J m S q=>Lv P q g/\J.Ren m/\(J.Stop S/\J.Ok P)/\WR m S.w w/\j8 w J.c true/\∃pc z,t[pc]?=some z/\z.g=i/\z.act=.close J.c/\∀p a op,cb t p=some a->t[p]?=some op->op.g=i->p<=pc
 |.act J m S n=>J.Ok P/\j8 w J.c false/\J.Act P m S n g w
 |.lO J m S n v=>J.Ok P/\j8 w J.c false/\∃g0 z,g=parked g0 #[ce J.c v z] .send/\J.ML P m S n v g0 w
 |.start J m S k=>J.Ok P/\j8 w J.c false/\J.Ren m/\oc P J.Stop S/\Holds S J.r []/\WR m S.w w/\tO P J m S k g
section
variable {P:Program} {w w₁:World} {t u:b6} {i:Nat} {g:Goroutine} {ρ:iw}
theorem WR.at{wl:World}(h:WR m wl w)(d:Nat):WR m wl (w.at d):=h.rely (λ_ _ _=>rfl) (cB _) rfl
theorem tO.status{S:LS}{k:Nat}(h:tO P J m S k g):g.status=.running:=by cases k<;>exact h.1
theorem At.status(h:At P w t i g ρ):g.status=.running\/g.status=.blocked\/g.status=.finished:=by
 cases ρ with
 |quit q=>exact h.status.elim .inl λx=>.inr (.inr x)
 |ended O J m S q=>exact h.1.status.elim .inl λx=>.inr (.inr x)
 |act J m S n=>
  obtain⟨_,_,h⟩:=h;obtain⟨fr,cs,rfl,_⟩:=h.uv;exact .inl rfl
 |lO J m S n v=>
  obtain⟨_,_,g0,z,rfl,_⟩:=h;exact .inr (.inl rfl)
 |start J m S k=>exact .inl h.2.2.2.2.2.2.status
theorem At.wr(h:At P w t i g ρ)(hm:ρ.pA=some m):∃wl,WR m wl w:=by
 cases ρ with
 |quit q=>cases hm
 |ended hd J m S q=>cases hm; exact⟨_,h.2.2.2.1⟩
 |act J m S n=>
  cases hm;obtain⟨_,_,h⟩:=h;obtain⟨fr,cs,rfl,O⟩:=h.uv;exact⟨_,O.world⟩
 |lO J m S n v=>
  cases hm;obtain⟨_,_,g0,z,rfl,U⟩:=h;obtain⟨_,_,_,_,O⟩:=U.uv;obtain⟨_,wl,_,_,_,_,_,_,_,Y,_⟩:=O.uv;exact⟨wl,Y⟩
 |start J m S k=>cases hm; exact⟨_,h.2.2.2.2.2.1⟩
theorem At.V8(h:At P w t i g ρ)(hm:ρ.pA=some m)(O:ρ.u9=some J):J.Ren m:=by
 cases ρ with
 |quit q=>cases hm
 |ended Y J m S q=>cases hm; cases O; exact h.2.1
 |act J m S n=>cases hm; cases O; exact h.2.2.pA
 |lO J m S n v=>
  cases hm; cases O;obtain⟨_,_,g0,z,rfl,U⟩:=h;exact U.pA
 |start J m S k=>cases hm; cases O; exact h.2.2.1
theorem At.is(h:At P w t i g ρ)(O:ρ.u9=some J):∃cl,j8 w J.c cl:=by
 cases ρ with
 |quit q=>cases O
 |ended U J m S q=>cases O; exact⟨_,h.2.2.2.2.1⟩
 |act J m S n=>cases O; exact⟨_,h.2.1⟩
 |lO J m S n v=>cases O; exact⟨_,h.2.1⟩
 |start J m S k=>cases O; exact⟨_,h.2.1⟩
theorem At.rely(h:At P w t i g ρ)(hk:∀m,ρ.pA=some m->∀r b,m.blk r=some b->w₁.heap[b]?=w.heap[b]?)(hc:∀J,ρ.u9=some J->w₁.heap[J.c]?=w.heap[J.c]?)(hs:w.heap.size<=w₁.heap.size)(ho:w₁.os=w.os)(hu:∀op∈u,op.g=i->op.act.touch?=none):At P w₁ (t++u) i g ρ:=by
 have Y:∀J cl,ρ.u9=some J->j8 w J.c cl->j8 w₁ J.c cl:=by
  rintro J cl hJ ⟨s,r,h⟩;exact⟨s,r,by rw[hc J hJ]; exact h⟩
 cases ρ with
 |quit q=>exact h
 |ended hd J m S q=>
  obtain⟨h1,h2,O,h4,h5,pc,z,h6,h7,h8,h9⟩:=h;refine⟨h1,h2,O,h4.rely (hk m rfl) hs ho,Y J _ rfl h5,pc,z,by rw[cg (cp h6)]; exact h6,h7,h8,λp a op ha aa hg=>?_⟩;rcases ii ha with⟨hp,h1⟩|⟨ab,x1,x2,x3⟩
  .exact h9 p a op h1 (by rw[<-cg hp]; exact aa) hg
  .rw[x2]at aa;cases aa;rw[hu _ x1 hg]at x3;cases x3
 |act J m S n=>
  obtain⟨h1,h2,O⟩:=h;obtain⟨fr,cs,rfl,U⟩:=O.uv;exact⟨h1,Y J _ rfl h2,O.pA,O.pW,⟨fr,cs,rfl,U.rely (hk m rfl) hs ho⟩,O.jU⟩
 |lO J m S n v=>
  obtain⟨h1,h2,g0,z,rfl,O⟩:=h;obtain⟨v0,fr,cs,e,U⟩:=O.uv;exact⟨h1,Y J _ rfl h2,g0,z,rfl,O.pA,O.pW,⟨v0,fr,cs,e,U.rely (hk m rfl) hs ho⟩,O.jU⟩
 |start J m S k=>
  obtain⟨h1,h2,O,h4,h5,h6,h7⟩:=h;exact⟨h1,Y J _ rfl h2,O,h4,h5,h6.rely (hk m rfl) hs ho,h7⟩
theorem At.woken(h:At P w t i g ρ)(a O:Goroutine):c6 P a O w g=g:=by
 cases ρ with
 |quit q=>exact cz h.Hc
 |ended Y J m S q=>exact cz h.1.Hc
 |act J m S n=>
  obtain⟨_,_,h⟩:=h;obtain⟨fr,cs,rfl,_⟩:=h.uv;exact woken_run rfl
 |lO J m S n v=>
  obtain⟨_,⟨s,r,U⟩,g0,z,rfl,_⟩:=h;exact woken_send_open a O U
 |start J m S k=>exact woken_run h.2.2.2.2.2.2.status
end
def Kn(jl:Nat->Prop)(ρ:Nat->iw)(t:b6):Prop:=∀p a b,cb t p=some a->nB a.loc=some b->jl b->cn t 0 p\/∃i m' r,(ρ i).pA=some m'/\m'.blk r=some b
theorem Kn.app{ρ ρ':Nat->iw}{t u:b6}(h:Kn jl ρ t)(hr:∀i m' r b,(ρ i).pA=some m'->m'.blk r=some b->∃i' O r',(ρ' i').pA=some O/\O.blk r'=some b)(hu:∀op∈u,∀a b,op.act.touch?=some a->nB a.loc=some b->jl b->op.g=0\/∃i m' r,(ρ' i).pA=some m'/\m'.blk r=some b):Kn jl ρ' (t++u):=by
 intro p a b ha hb Y;rcases ii ha with⟨_,U⟩|⟨op,U,h2,h3⟩
 .rcases h p a b U hb Y with x|⟨i,m',r,x,y⟩
  .exact .inl (x.app u)
  .exact .inr (hr i m' r b x y)
 .rcases hu op U a b h3 hb Y with x|x
  .have:=cr h2;rw[x]at this;exact .inl this
  .exact .inr x
theorem Kn.same{ρ ρ':Nat->iw}{t:b6}(h:Kn jl ρ t)(O:∀j,(ρ' j).pA=(ρ j).pA):Kn jl ρ' t:=λp a b U hb Y=>(h p a b U hb Y).imp id λ⟨i,m',r,x,y⟩=>⟨i,m',r,by rw[O]; exact x,y⟩
def TC(Pd jl:Nat->Prop)(ρ:Nat->iw)(w:World)(t:b6):Prop:=∀c,Pd c->j8 w c false/\(∀p a,cb t p=some a->nB a.loc≠some c)/\(∀i J,(ρ i).u9=some J->J.c≠c)/\¬jl c
theorem TC.app{ρ ρ':Nat->iw}{w w₁:World}{t u:b6}(h:TC Pd jl ρ w t)(Y:∀j,(ρ' j).u9=(ρ j).u9)(hw:∀c,Pd c->j8 w c false->w₁.heap[c]?=w.heap[c]?)(hu:∀op∈u,∀a c,op.act.touch?=some a->Pd c->j8 w c false->nB a.loc≠some c):TC Pd jl ρ' w₁ (t++u):=by
 intro c O;obtain⟨⟨s,r,U⟩,h2,h3,h4⟩:=h c O;refine⟨⟨s,r,by rw[hw c O ⟨s,r,U⟩]; exact U⟩,λp a ha=>?_,λi J hJ=>h3 i J (by rw[<-Y]; exact hJ),h4⟩;rcases ii ha with⟨_,x⟩|⟨op,x,_,y⟩
 .exact h2 p a x
 .exact hu op x a c y O ⟨s,r,U⟩
theorem TC.same{ρ ρ':Nat->iw}{w w₁:World}{t:b6}(h:TC Pd jl ρ w t)(O:∀j,(ρ' j).u9=(ρ j).u9)(U:w₁.heap=w.heap):TC Pd jl ρ' w₁ t:=by
 have:=h.app (u:=#[]) (w₁:=w₁) O (λc _ _=>by rw[U]) (by simp);simpa using this
def rD:Obj:=.deferred none
def Vp(jl:Nat->Prop)(w0:World)(ρ:Nat->iw):Prop:=∀b,b<w0.heap.size->jl b\/(∃i J r o,(ρ i).u9=some J/\J.nH r b o/\w0.heap[b]?=some o)\/w0.heap[b]?=some rD
theorem Vp.same{w0:World}{ρ ρ':Nat->iw}(h:Vp jl w0 ρ)(O:∀j,(ρ' j).u9=(ρ j).u9):Vp jl w0 ρ':=λb hb=>(h b hb).imp id λz=>z.imp (λ⟨i,J,r,o,x,y⟩=>⟨i,J,r,o,by rw[O]; exact x,y⟩) id
structure Co(P:Program)(jl:Nat->Prop)(w0:World)(Pd:Nat->Prop)(ρ:Nat->iw)(m:Ren)(wl:World)(gs:Array Goroutine)(w:World)(t:b6):Prop where
 main:WR m wl w
 at_:∀i g,0<i->gs[i]?=some g->At P w t i g (ρ i)
 out:∀i,i=0\/gs.size<=i->ρ i=.quit 0
 d0:∀i m',(ρ i).pA=some m'->qy m m'
 dd:∀i j m1 m2,i≠j->(ρ i).pA=some m1->(ρ j).pA=some m2->qy m1 m2
 cc:∀i j J1 J2,i≠j->(ρ i).u9=some J1->(ρ j).u9=some J2->J1.c≠J2.c
 s0:pP t 0 m
 ss:∀i m',(ρ i).live=some m'->pP t i m'
 MJ:∀i J,(ρ i).chan=some J->∀p a,cb t p=some a->nB a.loc≠some J.c
 low:Q9 t w.heap.size
 hears:nF t
 nh:om t λi=>(ρ i).sum≠none
 clean:∀said,¬bT said t
 fix:∀b,jl b->b<w.heap.size/\w.heap[b]?=w0.heap[b]?
 f0:∀r b,m.blk r=some b->jl b->m.loose r
 ff:∀i m',(ρ i).pA=some m'->∀r b,m'.blk r=some b->jl b->m'.loose r
 cx:∀i J,(ρ i).u9=some J->¬jl J.c
 sz:w0.heap.size<=w.heap.size
 os:w.os=w0.os/\w.output=w0.output
 kn:Kn jl ρ t
 pd:TC Pd jl ρ w t
 len:Vp jl w0 ρ
end
section
open Go.Conc
open Go.ConcN (upd upd_same upd_ne)
variable {es:Array Event} {fn:bJ} {g':Goroutine} {J:pC} {c:Nat} {gE:Ren} {ρ':iw} {pos:String}
theorem jj.at(m:Ren)(w:World)(d:Nat):jj m m w (w.at d):=⟨λ_ _ _=>rfl,cB _,λr' h O=>absurd O (by show ¬r'<w.heap.size; omega),λ_ _ h=>.inl h,λ_ _ h=>.inl h,rfl,rfl,rfl,λ_=>rfl,rfl,λ_ _ _ _=>rfl⟩
theorem iw.qu{ρ:iw}{m:Ren}(h:ρ.live=some m):ρ.pA=some m:=by cases ρ<;>first|cases h; rfl|cases h
theorem iw.wB{ρ:iw}(h:ρ.chan=some J):ρ.u9=some J:=by cases ρ<;>first|cases h; rfl|cases h
theorem iw.O'{ρ:iw}{m:Ren}(h:ρ.live=some m):ρ.sum≠none:=by cases ρ<;>first|(simp[iw.sum]; done)|cases h
theorem WR.Bo{m:Ren}{wl w:World}(h:WR m wl w){cl:Bool}(O:j8 w c cl){r:Nat}:m.blk r≠some c:=by
 intro Y;obtain⟨s,y,O⟩:=O;obtain⟨o,o',_,U,h3⟩:=h.obj r c Y;rw[O]at U;cases U;cases h3
theorem jj.Q2{m:Ren}{w w₁ wl:World}(U:jj m gE w w₁)(Y:WR m wl w){cl:Bool}(O:j8 w c cl):w₁.heap[c]?=w.heap[c]?:=by
 obtain⟨s,y,O⟩:=O;rw[O];exact U.chan Y O
theorem ofEvents_g{g:Nat}{op:MemOp}(h:op∈db g fn pos es):op.g=g:=by
 obtain⟨e,_,rfl⟩:=bV h;rfl
section
variable {P:Program} {jl:Nat->Prop} {w0:World} {Pd:Nat->Prop} {ρ:Nat->iw} {m:Ren} {wl:World} {gs gs':Array Goroutine} {w w₁:World} {t:b6}
theorem Co.get(h:Co P jl w0 Pd ρ m wl gs w t){i:Nat}(Y:ρ i≠.quit 0):∃g,0<i/\gs[i]?=some g/\At P w t i g (ρ i):=by
 by_cases hi:i=0\/gs.size<=i
 .exact absurd (h.out i hi) Y
 .have O:i<gs.size:=by omega
  have U:=bn O;exact⟨gs[i],by omega,U,h.at_ i _ (by omega) U⟩
theorem Co.wr(h:Co P jl w0 Pd ρ m wl gs w t){i:Nat}{m':Ren}(O:(ρ i).pA=some m'):∃wl',WR m' wl' w:=by
 obtain⟨g,_,_,U⟩:=h.get (i:=i) λe=>by rw[e]at O; cases O
 exact U.wr O
theorem Co.is(h:Co P jl w0 Pd ρ m wl gs w t){i:Nat}(O:(ρ i).u9=some J):∃cl,j8 w J.c cl:=by
 obtain⟨g,_,_,U⟩:=h.get (i:=i) λe=>by rw[e]at O; cases O
 exact U.is O
theorem Co.step{i:Nat}{mi:Ren}{ah:World}(h:Co P jl w0 Pd ρ m wl gs w t)(hi:0<i)(az:i<gs.size)(hl:(ρ i).live=some mi)(ae:mi.Le gE)(hk:jj mi gE w w₁)(he:∀e∈es,qY gE e)(ab:WR gE ah w₁)
  (aj:At P w₁ (t++db i fn pos es) i g' ρ') (ak:ρ'.live=some gE) (ao:ρ'.u9=(ρ i).u9) (hc:ρ'.chan=(ρ i).chan) (hs:ρ'.sum=(ρ i).sum)
  (ap:gs'.size=gs.size) (aq:gs'[i]?=some g') (ar:∀j x,0<j->j≠i->gs'[j]?=some x->∃y,gs[j]?=some y/\(At P w₁ (t++db i fn pos es) j y (ρ j)->x=y)) :
  Co P jl w0 Pd (cK ρ i ρ') m wl gs' w₁ (t++db i fn pos es):=by
 have hr:=iw.qu hl;have ad:=iw.qu ak;obtain⟨a0,au⟩:=h.wr hr;have Y:∀c cl,j8 w c cl->w₁.heap[c]?=w.heap[c]?:=λc cl x=>hk.Q2 au x
 have aa:∀j,(cK ρ i ρ' j).u9=(ρ j).u9:=λj=>by
  by_cases e:j=i
  .subst e; rw[cI]; exact ao
  .rw[cJ _ _ e]
 have al:∀j,(cK ρ i ρ' j).chan=(ρ j).chan:=λj=>by
  by_cases e:j=i
  .subst e; rw[cI]; exact hc
  .rw[cJ _ _ e]
 have ag:∀j,(cK ρ i ρ' j).sum=(ρ j).sum:=λj=>by
  by_cases e:j=i
  .subst e; rw[cI]; exact hs
  .rw[cJ _ _ e]
 have dm:qy m gE:=(qy.grow (h.d0 i mi hr).symm ae hk h.main).symm
 have dj:∀j m',j≠i->(ρ j).pA=some m'->qy gE m':=λj m' U O=>by
  obtain⟨wl',av⟩:=h.wr O;exact qy.grow (h.dd i j mi m' (dH U) hr O) ae hk av
 have hrel:∀j y,0<j->j≠i->gs[j]?=some y->At P w₁ (t++db i fn pos es) j y (ρ j):=by
  intro j y hj U hy;refine(h.at_ j y hj hy).rely (λm' O=>hk.leaves (h.dd i j mi m' (dH U) hr O) (h.wr O).choose_spec) (λJ hJ=>?_) hk.size hk.os λop ac hg=>absurd (ofEvents_g ac) (by rw[hg]; exact U);obtain⟨cl,hx⟩:=h.is hJ;exact Y _ cl hx
 have aw:∀j x,0<j->gs'[j]?=some x->At P w₁ (t++db i fn pos es) j x (cK ρ i ρ' j):=by
  intro j x am hx;by_cases e:j=i
  .subst e;rw[aq]at hx;cases hx;rw[cI]; exact aj
  .rw[cJ _ _ e];obtain⟨y,hy,ax⟩:=ar j x am e hx;have:=hrel j y am e hy;rw[ax this]; exact this
 have si:pP t i gE:=(h.ss i mi hl).grow ae h.low hk.news;refine⟨h.main.rely (hk.leaves (h.d0 i mi hr).symm h.main) hk.size hk.os,aw,λj hj=>?_,λj m' O=>?_,λj k m1 m2 U h1 h2=>?_,λj k J1 J2 U h1 h2=>h.cc j k J1 J2 U (by rw[<-aa]; exact h1) (by rw[<-aa]; exact h2),h.s0.other dm he,λj m' O=>?_,λj J hJ p a ha hb=>?_,h.low.own ab hk.size he,Dq h.hears he,?_,si.clean h.clean he,λb hb=>?_,h.f0,λj m' O r b an hb=>?_,λj J hJ=>h.cx j J (by rw[<-aa]; exact hJ),cC h.sz hk.size,⟨hk.os.trans h.os.1,hk.output.trans h.os.2⟩,h.kn.app (λj m' r b O hb=>?_) (λop ac a b ha hb _=>?_),h.pd.app aa (λc _ ai=>Y c _ ai) (λop ac a c ha _ ai hb=>?_),h.len.same aa⟩
 .rw[cJ _ _ (by rintro rfl; rcases hj with x|x<;>omega)];exact h.out j (by rw[<-ap]; exact hj)
 .by_cases e:j=i
  .subst e;rw[cI,ad]at O;cases O;exact dm
  .rw[cJ _ _ e]at O;exact h.d0 j m' O
 .by_cases e:j=i
  .subst e;rw[cI,ad]at h1;cases h1;rw[cJ _ _ (dH U)]at h2;exact dj k m2 (dH U) h2
  .rw[cJ _ _ e]at h1;by_cases e':k=i
   .subst e';rw[cI,ad]at h2;cases h2;exact(dj j m1 e h1).symm
   .rw[cJ _ _ e']at h2;exact h.dd j k m1 m2 U h1 h2
 .by_cases e:j=i
  .subst e;rw[cI,ak]at O;cases O;exact si.own
  .rw[cJ _ _ e]at O;exact(h.ss j m' O).other (dj j m' e (iw.qu O)).symm he
 .rw[al]at hJ;rcases ii ha with⟨_,h1⟩|⟨op,h1,_,h3⟩
  .exact h.MJ j J hJ p a h1 hb
  .obtain⟨e,af,rfl⟩:=bV h1
   have hm:a.loc.isMemory=true:=by
    cases hl:a.loc<;>rw[hl]at hb<;>simp[nB]at hb<;>rfl
   obtain⟨b',r',g1,g2,g3⟩:=oI (he e af) h3 hm;rw[hb]at g1;cases g1;obtain⟨cl,s,y,hx⟩:=h.is (iw.wB hJ);have:j8 w₁ _ cl:=⟨s,y,by rw[Y _ cl ⟨s,y,hx⟩]; exact hx⟩;exact ab.Bo this g2
 .refine(h.nh.mono λj hj=>by rw[ag]; exact hj).app λop ac=>.inr (.inr ?_);rw[ofEvents_g ac,ag];exact iw.O' hl
 .obtain⟨h1,h2⟩:=h.fix b hb;refine⟨cA h1 hk.size,?_⟩;rw[<-h2];by_cases hx:∃r,mi.blk r=some b
  .obtain⟨r,hx⟩:=hx;exact hk.still r b hx (h.ff i mi hr r b hx hb)
  .exact hk.old b h1 λr ay=>hx ⟨r,ay⟩
 .by_cases e:j=i
  .subst e;rw[cI,ad]at O;cases O;rcases hk.news r b an with x|x
   .exact(ae.loose r b x).2 (h.ff j mi hr r b x hb)
   .have:=(h.fix b hb).1;omega
  .rw[cJ _ _ e]at O;exact h.ff j m' O r b an hb
 .by_cases e:j=i
  .subst e;rw[hr]at O;cases O;exact⟨j,gE,r,by rw[cI]; exact ad,ae.blk _ _ hb⟩
  .exact⟨j,m',r,by rw[cJ _ _ e]; exact O,hb⟩
 .obtain⟨e,af,rfl⟩:=bV ac
  have hm:a.loc.isMemory=true:=by
   cases hl:a.loc<;>rw[hl]at hb<;>simp[nB]at hb<;>rfl
  obtain⟨b',r',g1,g2,g3⟩:=oI (he e af) ha hm;rw[hb]at g1;cases g1;exact .inr ⟨i,gE,r',by rw[cI]; exact ad,g2⟩
 .obtain⟨e,af,rfl⟩:=bV ac
  have hm:a.loc.isMemory=true:=by
   cases hl:a.loc<;>rw[hl]at hb<;>simp[nB]at hb<;>rfl
  obtain⟨b',r',g1,g2,g3⟩:=oI (he e af) ha hm;rw[hb]at g1;cases g1;obtain⟨s,y,hx⟩:=ai;exact ab.Bo (cl:=false) ⟨s,y,by rw[Y _ false ⟨s,y,hx⟩]; exact hx⟩ g2
theorem Co.Tb{i:Nat}(h:Co P jl w0 Pd ρ m wl gs w t)(d:Nat)(hi:0<i)(ag:i<gs.size)(aa:At P (w.at d) t i g' ρ')(hr:ρ'.pA=(ρ i).pA)(hl:ρ'.live=(ρ i).live)(O:ρ'.u9=(ρ i).u9)(hc:ρ'.chan=(ρ i).chan)(hs:ρ'.sum=(ρ i).sum)
  (ac:gs'.size=gs.size) (ad:gs'[i]?=some g') (ae:∀j x,0<j->j≠i->gs'[j]?=some x->∃y,gs[j]?=some y/\(At P (w.at d) t j y (ρ j)->x=y)) :
  Co P jl w0 Pd (cK ρ i ρ') m wl gs' (w.at d) t:=by
 have key:∀{α:Type}(f:iw->α),f ρ'=f _->∀j,f (cK ρ i ρ' j)=f (ρ j):=λf hf j=>by
  by_cases e:j=i
  .subst e; rw[cI]; exact hf
  .rw[cJ _ _ e]
 have hrel:∀j y,0<j->gs[j]?=some y->At P (w.at d) t j y (ρ j):=by
  intro j y hj hy;have:=(h.at_ j y hj hy).rely (w₁:=w.at d) (u:=#[]) (λ_ _ _ _ _=>rfl) (λ_ _=>rfl) (cB _) rfl (by simp);simpa using this
 refine⟨h.main.at d,λj x ab hx=>?_,λj hj=>?_,λj m' U=>h.d0 j m' (by rw[<-key _ hr]; exact U),λj k m1 m2 Y h1 h2=>h.dd j k m1 m2 Y (by rw[<-key _ hr]; exact h1) (by rw[<-key _ hr]; exact h2),λj k J1 J2 Y h1 h2=>h.cc j k J1 J2 Y (by rw[<-key _ O]; exact h1) (by rw[<-key _ O]; exact h2),h.s0,λj m' U=>h.ss j m' (by rw[<-key _ hl]; exact U),λj J hJ=>h.MJ j J (by rw[<-key _ hc]; exact hJ),h.low,h.hears,h.nh.mono λj hj=>by rw[key _ hs]; exact hj,h.clean,h.fix,h.f0,λj m' U=>h.ff j m' (by rw[<-key _ hr]; exact U),λj J hJ=>h.cx j J (by rw[<-key _ O]; exact hJ),h.sz,h.os,h.kn.same (key _ hr),h.pd.same (key _ O) rfl,h.len.same (key _ O)⟩
 .by_cases e:j=i
  .subst e;rw[ad]at hx;cases hx;rw[cI]; exact aa
  .rw[cJ _ _ e];obtain⟨y,hy,af⟩:=ae j x ab e hx;have:=hrel j y ab hy;rw[af this]; exact this
 .rw[cJ _ _ (by rcases hj with x|x<;>omega)];exact h.out j (by rw[<-ac]; exact hj)
end
end
section
open Go.Conc
open Go.ConcN (upd upd_same upd_ne)
inductive lm(P:Program):iw->iw->Prop
 |quit {q}:lm P (.quit q) (.quit (q+1))
 |ended {h J m S q}:lm P (.ended h J m S q) (.ended h J m S (q+1))
 |close {J m S n m' S' q}:lm P (.ended false J m' S' q) (.act J m S n)
 |act {J m S n m' S' n'}:pO P J.Stop S' S->lm P (.act J m' S' n') (.act J m S n)
 |lO {J m S n m' S' n' v}:pO P J.Stop S' S->lm P (.lO J m' S' n' v) (.act J m S n)
 |start {J m S k}:lm P (.start J m S k) (.start J m S (k+1))
 |go {J m S k}:lm P (.act J m S 0) (.start J m S k)
section
variable {P:Program}
theorem Gh(q:Nat):Acc (lm P) (.quit q):=by
 induction q with
 |zero=>exact .intro _ λy h=>by cases h
 |succ q O=>exact .intro _ λy h=>by cases h; exact O
theorem Dn(O:Bool)(J:pC)(m:Ren)(S:LS)(q:Nat):Acc (lm P) (.ended O J m S q):=by
 induction q with
 |zero=>exact .intro _ λy h=>by cases h
 |succ q U=>exact .intro _ λy h=>by cases h; exact U
theorem Hl(J:pC)(m:Ren)(S:LS)(n:Nat)(v:Value):Acc (lm P) (.lO J m S n v):=.intro _ λy h=>by cases h
theorem En{J:pC}{S:LS}(h:Acc (pO P J.Stop) S):∀(m:Ren)(n:Nat),Acc (lm P) (.act J m S n):=by
 induction h with
 |intro S _ U=>
  intro m n;refine .intro _ λy Y=>?_
  cases Y with
  |close=>exact Dn ..
  |act O=>exact U _ O ..
  |lO O=>exact Hl ..
theorem M1{J:pC}{S:LS}(h:Acc (pO P J.Stop) S)(m:Ren)(k:Nat):Acc (lm P) (.start J m S k):=by
 induction k with
 |zero=>exact .intro _ λy O=>by cases O; exact En h ..
 |succ k U=>
  refine .intro _ λy O=>?_
  cases O with
  |start=>exact U
  |go=>exact En h ..
theorem tO.Ux{J:pC}{m:Ren}{S:LS}:∀{k:Nat}{g:Goroutine},tO P J m S k g->∀{w:World},WR m S.w w->xy P S
 |0,_,h,w,O=>by
  obtain⟨fr,cs,d,es,_,_,U⟩:=h.2 w O
  exact⟨_,_,_,_,_,_,_,U⟩
 |k+1,_,h,w,O=>by
  obtain⟨g',d,es,_,_,U⟩:=h.2 w O;exact U.Ux O
theorem At.acc{w:World}{t:b6}{i:Nat}{g:Goroutine}{ρ:iw}(h:At P w t i g ρ):Acc (lm P) ρ:=by
 cases ρ with
 |quit q=>exact Gh q
 |ended hd J m S q=>exact Dn ..
 |act J m S n=>
  obtain⟨O,_,U⟩:=h;obtain⟨fr,cs,_,Y⟩:=U.uv;exact En (U.pW.acc O.blind ⟨_,_,_,_,_,_,_,Y⟩) ..
 |lO J m S n v=>exact Hl ..
 |start J m S k=>
  obtain⟨O,_,_,h4,_,h6,h7⟩:=h;exact M1 (h4.acc O.blind (h7.Ux h6)) ..
end
section
variable {P:Program} {jl:Nat->Prop} {w0:World} {Pd:Nat->Prop} {ρ:Nat->iw} {m:Ren} {wl:World} {gs gs':Array Goroutine} {w w₁:World} {t:b6}
theorem Co.acc(h:Co P jl w0 Pd ρ m wl gs w t):Acc (Jl (lm P) gs.size) ρ:=by
 refine PQ _ _ λi hi=>?_;by_cases e:i=0
 .rw[h.out i (.inl e)]; exact Gh 0
 .exact(h.at_ i _ (by omega) (bn hi)).acc
theorem MG(i:Nat)(fn:bJ)(pos:String)(c:Nat):db i fn pos #[⟨.obj c,false,true⟩,⟨.obj c,true,true⟩]=#[{g:=i,fn,pos,act:=.access ⟨.obj c,false,true⟩},{g:=i,fn,pos,act:=.close c}]:=by
 rw[cj];simp[dp]
theorem Co.close{i:Nat}{g':Goroutine}{J:pC}{mi:Ren}{S:LS}{n s r:Nat}{fn:bJ}{pos:String}(h:Co P jl w0 Pd ρ m wl gs w t)(hi:0<i)(ar:i<gs.size)(ad:ρ i=.act J mi S n)(au:J.Stop S)(hn:n=J.L.length)(ap:WR mi S.w w)(hc:w.heap[J.c]?=some (.chan 0 #[] false s r false))(av:Lv P 2 g')
  (ah:w₁={w with heap:=w.heap.setIfInBounds J.c (.chan 0 #[] true s r false)}) (aw:gs'.size=gs.size) (ax:gs'[i]?=some g')
  (aq:∀j x,0<j->j≠i->gs'[j]?=some x->∃y,gs[j]?=some y/\(At P w₁ (t++db i fn pos #[⟨.obj J.c,false,true⟩,⟨.obj J.c,true,true⟩]) j y (ρ j)->x=y)) :
  Co P jl w0 Pd (cK ρ i (.ended false J mi S 2)) m wl gs' w₁ (t++db i fn pos #[⟨.obj J.c,false,true⟩,⟨.obj J.c,true,true⟩]):=by
 subst ah;have af:J.c<w.heap.size:=mF hc;have U:w.heap.size<=(w.heap.setIfInBounds J.c (.chan 0 #[] true s r false)).size:=by simp
 have ai:∃a b x s y t,w.heap[J.c]?=some (.chan a b x s y t):=⟨_,_,_,_,_,_,hc⟩
 have key:∀{α:Type}(f:iw->α),f (.ended false J mi S 2)=f (ρ i)->∀j,f (cK ρ i (.ended false J mi S 2) j)=f (ρ j):=λf hf j=>by
  by_cases e:j=i
  .subst e; rw[cI]; exact hf
  .rw[cJ _ _ e]
 have kr:=key iw.pA (by rw[ad]; rfl);have kj:=key iw.u9 (by rw[ad]; rfl);have ks:=key iw.sum (by rw[ad,hn]; rfl);have ae:(ρ i).u9=some J:=by rw[ad]; rfl
 have ay:(ρ i).chan=some J:=by rw[ad]; rfl
 have kl:∀j m',(cK ρ i (.ended false J mi S 2) j).live=some m'->j≠i/\(ρ j).live=some m':=λj m' hx=>by
  by_cases e:j=i
  .subst e; rw[cI]at hx; cases hx
  .rw[cJ _ _ e]at hx; exact⟨e,hx⟩
 have kc:∀j J',(cK ρ i (.ended false J mi S 2) j).chan=some J'->j≠i/\(ρ j).chan=some J':=λj J' hx=>by
  by_cases e:j=i
  .subst e; rw[cI]at hx; cases hx
  .rw[cJ _ _ e]at hx; exact⟨e,hx⟩
 have ab:=MG i fn pos J.c;generalize hu:db i fn pos #[⟨.obj J.c,false,true⟩,⟨.obj J.c,true,true⟩]=u at ab aq⊢;have aj:∀op∈u,op.g=i:=by rw[<-hu]; exact λop O=>ofEvents_g O
 have aa:∀op∈u,∀a,op.act.touch?=some a->a=⟨.obj J.c,false,.atomic⟩:=by
  intro op O a ha;rw[ab]at O;simp only[cX,cS,cR,or_false]at O;rcases O with rfl|rfl
  .simp only[dq,dc]at ha; exact ha.symm
  .cases ha
 have ag:∀j m' wl',pP t j m'->WR m' wl' w->pP (t++u) j m':=by
  intro j m' wl' hs hw p a b rr ha hb hr az;rcases ii ha with⟨_,h1⟩|⟨op,h1,_,h3⟩
  .exact(hs p a b rr h1 hb hr az).app u
  .have:=aa op h1 a h3;subst this;cases hb;exact absurd hr (hw.Bo ⟨s,r,hc⟩)
 refine⟨h.main.rely (nw h.main ai) U rfl,λj x ak hx=>?_,λj hj=>?_,λj m' Y=>h.d0 j m' (by rw[<-kr]; exact Y),λj k m1 m2 al h1 h2=>h.dd j k m1 m2 al (by rw[<-kr]; exact h1) (by rw[<-kr]; exact h2),λj k J1 J2 al h1 h2=>h.cc j k J1 J2 al (by rw[<-kj]; exact h1) (by rw[<-kj]; exact h2),ag 0 m wl h.s0 h.main,λj m' Y=>?_,λj J' ac p a ha hb=>?_,λp a b ha hb=>?_,h.hears.append λop O=>?_,?_,λsaid=>?_,λb hb=>?_,h.f0,λj m' Y=>h.ff j m' (by rw[<-kr]; exact Y),λj J' ac=>h.cx j J' (by rw[<-kj]; exact ac),cC h.sz U,h.os,h.kn.app (λj m' r b Y hb=>⟨j,m',r,by rw[kr]; exact Y,hb⟩) (λop O a b ha hb a0=>?_),h.pd.app kj (λc am _=>bm ((h.pd c am).2.2.1 i J ae)) (λop O a c ha am _ hb=>?_),h.len.same kj⟩
 .by_cases e:j=i
  .subst e;rw[ax]at hx;cases hx;rw[cI];have an:=h.at_ j gs[j] ak (bn ar);rw[ad]at an;refine⟨av,an.2.2.pA,⟨au,an.1⟩,ap.rely (nw ap ai) U rfl,⟨s,r,by simp[af]⟩,t.size+1,{g:=j,fn,pos,act:=.close J.c},by rw[ab]; simp,rfl,rfl,λp a op ha O hg=>?_⟩;have:p<(t++u).size:=cp O;rw[ab]at this;simp at this;omega
  .rw[cJ _ _ e];obtain⟨y,hy,a3⟩:=aq j x ak e hx
   have:At P {w with heap:=w.heap.setIfInBounds J.c (.chan 0 #[] true s r false)} (t++u) j y (ρ j):=by
    refine(h.at_ j y ak hy).rely (λm' Y=>?_) (λJ' ac=>?_) U rfl λop O hg=>absurd (aj op O) (by rw[hg]; exact e)
    .obtain⟨wl',ao⟩:=h.wr Y;exact nw ao ai
    .exact bm (h.cc i j J J' (dH e) ae ac)
   rw[a3 this]; exact this
 .rw[cJ _ _ (by rcases hj with x|x<;>omega)];exact h.out j (by rw[<-aw]; exact hj)
 .obtain⟨e,Y⟩:=kl j m' Y;obtain⟨wl',ao⟩:=h.wr (iw.qu Y);exact ag j m' wl' (h.ss j m' Y) ao
 .obtain⟨e,ac⟩:=kc j J' ac;rcases ii ha with⟨_,h1⟩|⟨op,h1,_,h3⟩
  .exact h.MJ j J' ac p a h1 hb
  .have:=aa op h1 a h3;subst this;simp only[nB,dc]at hb;exact h.cc i j J J' (dH e) ae (iw.wB ac) hb
 .rcases ii ha with⟨_,h1⟩|⟨op,h1,_,h3⟩
  .exact cA (h.low p a b h1 hb) U
  .have:=aa op h1 a h3;subst this;simp only[nB,dc]at hb;subst hb;exact cA af U
 .rw[ab]at O;simp only[cX,cS,cR,or_false]at O;rcases O with rfl|rfl<;>simp
 .refine(h.nh.mono λj hj=>by rw[ks]; exact hj).app λop O=>.inr (.inr ?_);rw[aj op O,ks,ad];simp[iw.sum]
 .refine ck (h.clean said) aj λq a ha op O b hb a4=>?_;have:=aa op O b hb;subst this;exact absurd (by rw[a4.1]; rfl) (h.MJ i J ay q a ha)
 .obtain⟨h1,h2⟩:=h.fix b hb;refine⟨cA h1 U,?_⟩;rw[<-h2];exact bm (by rintro rfl; exact h.cx i J ae hb)
 .have:=aa op O a ha;subst this;cases hb;exact absurd a0 (h.cx i J ae)
 .have:=aa op O a ha;subst this;simp only[nB,dc]at hb;exact(h.pd c am).2.2.1 i J ae hb
end
end
section
open Go.Conc
open Go.ConcN (upd upd_same upd_ne)
variable {a g:Goroutine} {r:iw} {u:b6}
section
variable {P:Program} {jl:Nat->Prop} {w0:World} {Pd:Nat->Prop} {ρ:Nat->iw} {m:Ren} {wl:World} {gs gs':Array Goroutine} {w w₁:World} {t:b6} {sl:Option (Nat×Nat)}
theorem At.offers{i:Nat}{ρ:iw}(h:At P w t i g ρ)(c:Nat):bZ g c false=[]:=by
 cases ρ with
 |quit q=>exact bU (by rcases Lv.status h with x|x<;>rw[x]<;>simp) ..
 |ended O J m S q=>exact bU (by rcases h.1.status with x|x<;>rw[x]<;>simp) ..
 |act J m S n=>
  obtain⟨_,_,h⟩:=h;obtain⟨fr,cs,rfl,_⟩:=h.uv;exact bU (by simp[G]) ..
 |lO J m S n v=>
  obtain⟨_,_,g0,z,rfl,_⟩:=h;exact offersAt_parked_send' ..
 |start J m S k=>exact bU (by rw[h.2.2.2.2.2.2.status]; simp) ..
theorem uj{n i:Nat}(hi:i<n)(h:lm P r (ρ i)):Jl (lm P) n (cK ρ i r) ρ:=⟨i,hi,by rw[cI]; exact h,λj O=>cJ _ _ O⟩
theorem tY{i:Nat}(h:r.sum=(ρ i).sum)(j:Nat):(cK ρ i r j).sum=(ρ j).sum:=by
 by_cases e:j=i
 .subst e; rw[cI]; exact h
 .rw[cJ _ _ e]
theorem ru{i:Nat}{g':Goroutine}(w₁:World):∀j x,0<j->j≠i->((gs.map (woken P g g' w₁)).setIfInBounds i g')[j]?=some x->∃y,gs[j]?=some y/\(At P w₁ u j y (ρ j)->x=y):=by
 intro j x _ O U;rw[bm (dH O),bu]at U;obtain⟨y,Y,rfl⟩:=Option.map_eq_some_iff.1 U;exact⟨y,Y,λh=>h.woken g g'⟩
theorem BJ{i:Nat}{g':Goroutine}(w₁:World):∀j x,0<j->j≠i->(gs.setIfInBounds i g')[j]?=some x->∃y,gs[j]?=some y/\(At P w₁ u j y (ρ j)->x=y):=by
 intro j x _ O U;rw[bm (dH O)]at U;exact⟨x,U,λ_=>rfl⟩
theorem Lp{i:Nat}{g':Goroutine}(hi:0<i)(O:gs[0]?=some a):((gs.map (woken P g g' w₁)).setIfInBounds i g')[0]?=some (woken P g g' w₁ a):=by
 rw[bm (by omega),bu,O];rfl
theorem Qc(g g' a:Goroutine)(w:World):woken P g g' w a=a\/woken P g g' w a=a.again w:=by
 unfold woken;split
 .exact .inr rfl
 .exact .inl rfl
theorem Co.other{i:Nat}(h:Co P jl w0 Pd ρ m wl gs w t)(hi:0<i)(hg:gs[i]?=some g)(ae:g.status=.running)(h0:gs[0]?=some a)(ao:∀J mi S n g₁ cs w₁ es,ρ i=.act J mi S n->bx P false g w=.comm g₁ cs true .send w₁ es->bZ a J.c false=[]) :
  ∃gs' w' ops ρ',bN P (bY gs w sl) i=(.next (bY gs' w' sl),ops)/\Co P jl w0 Pd ρ' m wl gs' w' (t++ops)/\Jl (lm P) gs.size ρ' ρ/\(∀j,(ρ' j).sum=(ρ j).sum)/\gs'.size=gs.size/\((gs'[0]?=some a/\∀j,(ρ' j).chan=(ρ j).chan)\/gs'[0]?=some (a.again w'))/\(∀J mi S n v,ρ' i=.lO J mi S n v->bZ a J.c false=[])/\(∀j,j≠i->ρ' j=ρ j):=by
 have U:i<gs.size:=(bo.1 hg).1;have af:(i==0)=false:=by simp; omega
 have aa:=h.at_ i g hi hg
 have lv:∀q,Lv P q g->∃q' g',q=q'+1/\(∀w,bx P false g w=.go g' w #[])/\Lv P q' g':=by
  intro q hq
  cases q with
  |zero=>rw[show g.status=.finished from hq]at ae; cases ae
  |succ q=>
   rcases hq with x|⟨_,g',x,y⟩
   .rw[x]at ae; cases ae
   .exact⟨q,g',rfl,x,y⟩
 have ax:w.at w.drawn=w:=rfl
 have ad:∀r:iw,r.chan=(ρ i).chan->∀j,(cK ρ i r j).chan=(ρ j).chan:=λr hr j=>by
  by_cases e:j=i
  .subst e; rw[cI]; exact hr
  .rw[cJ _ _ e]
 have zero:∀(g':Goroutine)(w₁:World)(r:iw),r.chan=(ρ i).chan->((((gs.map (woken P g g' w₁)).setIfInBounds i g')[0]?=some a/\∀j,(cK ρ i r j).chan=(ρ j).chan)\/((gs.map (woken P g g' w₁)).setIfInBounds i g')[0]?=some (a.again w₁)):=by
  intro g' w₁ r hr;rw[Lp hi h0];rcases Qc (P:=P) g g' a w₁ with x|x
  .exact .inl ⟨by rw[x],ad r hr⟩
  .exact .inr (by rw[x])
 cases O:ρ i with
 |quit q=>
  rw[O]at aa;obtain⟨q',g',rfl,hs,hq⟩:=lv q aa;have Y:=cd (P:=P) (sl:=sl) (i:=i) hg (by rw[af]; exact hs w);have e0:db i g.frame.fn g.frame.place #[]=#[]:=by rw[cj]; simp
  rw[e0]at Y;refine⟨_,w,_,cK ρ i (.quit q'),Y,?_,uj U (by rw[O]; exact .quit),tY (by rw[O]; rfl),by simp,zero g' w _ (by rw[O]; rfl),λ_ _ _ _ _ x=>(by rw[cI]at x; cases x),λj hj=>cJ _ _ hj⟩;rw[bs];exact h.Tb (gs':=(gs.map (woken P g g' w)).setIfInBounds i g') w.drawn hi U (ρ':=.quit q') (g':=g') hq (by rw[O]; rfl) (by rw[O]; rfl) (by rw[O]; rfl) (by rw[O]; rfl) (by rw[O]; rfl) (by simp) (by simp[U]) (ru (w.at w.drawn))
 |ended hd J mi S q=>
  rw[O]at aa;obtain⟨q',g',rfl,hs,hq⟩:=lv q aa.1;have Y:=cd (P:=P) (sl:=sl) (i:=i) hg (by rw[af]; exact hs w);have e0:db i g.frame.fn g.frame.place #[]=#[]:=by rw[cj]; simp
  rw[e0]at Y;refine⟨_,w,_,cK ρ i (.ended hd J mi S q'),Y,?_,uj U (by rw[O]; exact .ended),tY (by rw[O]; cases hd<;>rfl),by simp,zero g' w _ (by rw[O]; rfl),λ_ _ _ _ _ x=>(by rw[cI]at x; cases x),λj hj=>cJ _ _ hj⟩;rw[bs];exact h.Tb (gs':=(gs.map (woken P g g' w)).setIfInBounds i g') w.drawn hi U (ρ':=.ended hd J mi S q') (g':=g') ⟨hq,aa.2⟩ (by rw[O]; rfl) (by rw[O]; rfl) (by rw[O]; rfl) (by rw[O]; rfl) (by rw[O]; cases hd<;>rfl) (by simp) (by simp[U]) (ru (w.at w.drawn))
 |lO J mi S n v=>
  rw[O]at aa;obtain⟨_,_,g0,z,rfl,_⟩:=aa;cases ae
 |start J mi S k=>
  rw[O]at aa;obtain⟨h1,h2,h3,h4,h5,h6,h7⟩:=aa;have ab:(ρ i).live=some mi:=by rw[O]; rfl
  have step:∀g' d es(r:iw),bx P false g w=.go g' (w.at d) es->(∀e∈es,qY mi e)->At P (w.at d) (t++db i g.frame.fn g.frame.place es) i g' r->r.live=some mi->r.u9=some J->r.chan=some J->r.sum=some (J,0)->lm P r (.start J mi S k)->
    ∃gs' w' ops ρ',bN P (bY gs w sl) i=(.next (bY gs' w' sl),ops)/\Co P jl w0 Pd ρ' m wl gs' w' (t++ops)/\Jl (lm P) gs.size ρ' ρ/\(∀j,(ρ' j).sum=(ρ j).sum)/\gs'.size=gs.size/\((gs'[0]?=some a/\∀j,(ρ' j).chan=(ρ j).chan)\/gs'[0]?=some (a.again w'))/\(∀J mi S n v,ρ' i=.lO J mi S n v->bZ a J.c false=[])/\(∀j,j≠i->ρ' j=ρ j):=by
   intro g' d es r hs he hr e1 e2 e3 e4 ak;have Y:=cd (P:=P) (sl:=sl) (i:=i) hg (by rw[af]; exact hs);exact⟨_,_,_,cK ρ i r,Y,h.step (gs':=(gs.map (woken P g g' (w.at d))).setIfInBounds i g') hi U ab (Ren.Le.refl mi) (jj.at mi w d) he (h6.at d) hr e1 (by rw[O]; exact e2) (by rw[O]; exact e3) (by rw[O]; exact e4) (by simp) (by simp[U]) (ru _),uj U (by rw[O]; exact ak),tY (by rw[O]; exact e4),by simp,zero g' _ r (by rw[O]; exact e3),λ_ _ _ _ _ x=>(by rw[cI]at x; subst x; cases ak),λj hj=>cJ _ _ hj⟩
  cases k with
  |zero=>
   obtain⟨fr,cs,d,es,hs,he,ac⟩:=h7.2 w h6;exact step _ d es (.act J mi S 0) hs he ⟨h1,h2,h3,h4,⟨fr,cs,rfl,ac⟩,[],h5,rfl⟩ rfl rfl rfl rfl .go
  |succ k=>
   obtain⟨g',d,es,hs,he,ag⟩:=h7.2 w h6;exact step g' d es (.start J mi S k) hs he ⟨h1,h2,h3,h4,h5,h6.at d,ag⟩ rfl rfl rfl rfl .start
 |act J mi S n=>
  rw[O]at aa;obtain⟨h1,⟨s,r,hc⟩,h3⟩:=aa;have ab:(ρ i).live=some mi:=by rw[O]; rfl
  obtain⟨ay,ap⟩:=h.wr (iw.qu ab);by_cases ag:J.Stop S
  .obtain⟨hn,fr,ps,a',ty,cs,rfl,hm,hd,hq,au⟩:=h3.stands h1 ag;obtain⟨fr',cs',e,ac⟩:=h3.uv;have hs:=closing (P:=P) (ps:=ps) (w:=w) hm hd hq hc;have Y:=cd (P:=P) (sl:=sl) (i:=i) hg (by rw[af]; exact hs)
   have av:∀o,woken P (G fr [ps]) (G {fr with defers:=[]} [ps]) {w with heap:=w.heap.setIfInBounds J.c (.chan 0 #[] true s r false)} o=o.again {w with heap:=w.heap.setIfInBounds J.c (.chan 0 #[] true s r false)}:=by
    intro o;unfold woken;rw[if_pos];simp[mayWake,G,hm]
   refine⟨_,_,_,cK ρ i (.ended false J mi S 2),Y,?_,uj U (by rw[O]; exact .close),tY (by rw[O,hn]; rfl),by simp,.inr ?_,λ_ _ _ _ _ x=>(by rw[cI]at x; cases x),λj hj=>cJ _ _ hj⟩
   .exact h.close (gs':=(gs.map (woken P (G fr [ps]) (G {fr with defers:=[]} [ps]) {w with heap:=w.heap.setIfInBounds J.c (.chan 0 #[] true s r false)})).setIfInBounds i (G {fr with defers:=[]} [ps])) hi U O ag hn ac.world hc au rfl (by simp) (by simp[U]) (ru _)
   .rw[Lp hi h0,av]
  .have aq:=h3.DC h1 ag;generalize aj:bx P false g w=sg at aq
   cases aq with
   |@go S' gE g₁ w₁ es am an al hk he=>
    have Y:=cd (P:=P) (sl:=sl) (i:=i) hg (by rw[af]; exact aj);obtain⟨fr',cs',e,ac⟩:=al.uv;exact⟨_,_,_,cK ρ i (.act J gE S' n),Y,h.step (gs':=(gs.map (woken P g g₁ w₁)).setIfInBounds i g₁) hi U ab an hk he ac.world ⟨h1,⟨s,r,hk.chan ap hc⟩,al⟩ rfl (by rw[O]; rfl) (by rw[O]; rfl) (by rw[O]; rfl) (by simp) (by simp[U]) (ru _),uj U (by rw[O]; exact .act am),tY (by rw[O]; rfl),by simp,zero g₁ _ _ (by rw[O]; rfl),λ_ _ _ _ _ x=>(by rw[cI]at x; cases x),λj hj=>cJ _ _ hj⟩
   |@send S' gE g₁ w₁ es v' z' am an ah hk he=>
    have ai:=hk.chan ap hc
    have hp:bD (gs.setIfInBounds i ph) J.c false=[]:=by
     refine c3 λj x hx=>?_;rcases cf gs i j x hx with⟨_,rfl⟩|⟨az,hx⟩
     .exact ci _ _
     .by_cases hj:j=0
      .subst hj;rw[h0]at hx;cases hx;exact ao J mi S n _ _ _ _ O aj
      .exact(h.at_ j x (by omega) hx).offers J.c
    have Y:=c5 (P:=P) (sl:=sl) (i:=i) hg (by rw[af]; exact aj) (by
     intro cc ar;simp only[cX,cS,cR,or_false]at ar;subst ar
     exact ways_send_none ai (by simp) hp)
    obtain⟨v0,fr',cs',e,ac⟩:=ah.uv;obtain⟨f0,a0,_,_,_,_,_,_,_,aw,_⟩:=ac.uv;refine⟨_,_,_,cK ρ i (.lO J gE S' n v'),Y,h.step (gs':=gs.setIfInBounds i _) hi U ab an hk he aw ⟨h1,⟨s,r,ai⟩,g₁,z',rfl,ah⟩ rfl (by rw[O]; rfl) (by rw[O]; rfl) (by rw[O]; rfl) (by simp) (by simp[U]) (BJ _),uj U (by rw[O]; exact .lO am),tY (by rw[O]; rfl),by simp,.inl ⟨?_,ad _ (by rw[O]; rfl)⟩,λ_ _ _ _ _ x=>(by rw[cI]at x; cases x; exact ao J mi S n _ _ _ _ O aj),λj hj=>cJ _ _ hj⟩;rw[bm (by omega)];exact h0
end
end
section
open Go.Conc
open Go.ConcN (upd upd_same upd_ne)
variable {a:Goroutine} {J:pC} {S:LS} {mi:Ren}
structure lQ(P:Program) where
 Up:Machine->b6->Prop
 Fin:Machine->Stepped×Array MemOp->b6->Prop
 back:∀M t,Fin M (bR P M) t->Up M t
 next:∀M M' ops t,Up M' (t++ops)->Fin M (.next M',ops) t
theorem tM{u:List MemOp}(U:∀op∈u,op.act.touch?=none):∀{t:b6}{said:Bool},¬bT said t->¬bT said (t++u.toArray):=by
 induction u with
 |nil=>simpa using h
 |cons x u Y=>
  intro t said h;have:t++(x::u).toArray=(t++#[x])++u.toArray:=by simp
  rw[this];refine Y (λop O=>U op (by simp[O])) ?_;refine ck (g:=x.g) h (λop O=>by simp at O; rw[O]) λi a _ op O b hb _=>?_;simp at O;subst O;rw[U op (by simp)]at hb;cases hb
section
variable {P:Program} {jl:Nat->Prop} {w0:World} {Pd:Nat->Prop} {ρ:Nat->iw} {m:Ren} {wl:World} {gs gs':Array Goroutine} {w w₁:World} {t:b6} {sl:Option (Nat×Nat)}
theorem Co.at(h:Co P jl w0 Pd ρ m wl gs w t)(d:Nat):Co P jl w0 Pd ρ m wl gs (w.at d) t:=by
 refine⟨h.main.at d,λi g hi O=>?_,h.out,h.d0,h.dd,h.cc,h.s0,h.ss,h.MJ,h.low,h.hears,h.nh,h.clean,h.fix,h.f0,h.ff,h.cx,h.sz,h.os,h.kn,h.pd.same (λ_=>rfl) rfl,h.len⟩;have:=(h.at_ i g hi O).rely (w₁:=w.at d) (u:=#[]) (λ_ _ _ _ _=>rfl) (λ_ _=>rfl) (cB _) rfl (by simp);simpa using this
theorem Co.awake(h:Co P jl w0 Pd ρ m wl gs w t)(U:gs[0]?=some a)(Y:a.status=.running\/a.status=.blocked\/a.status=.finished):∀g∈gs,c7 g:=by
 intro g hg;obtain⟨i,hi,rfl⟩:=bq.1 hg;rcases cD i with rfl|O
 .have:=by simpa[bn hi]using U
  rw[this]; exact awake_of Y
 .exact awake_of (h.at_ i _ O (bn hi)).status
theorem turn{Z:lQ P}{K:Nat->Option (pC×Nat)}{N:Nat}(O:a.status=.running)
  (hm:∀ρ gs w sl U d t,Co P jl w0 Pd ρ m wl gs (w.at d) t->(∀j,(ρ j).sum=K j)->gs[0]?=some a->gs.size=N->Z.Fin (bY gs w sl) (bN P (bY gs (w.at d) U) 0) t) :
  ∀ρ gs w sl t,Co P jl w0 Pd ρ m wl gs w t->(∀j,(ρ j).sum=K j)->gs[0]?=some a->gs.size=N->Z.Up (bY gs w sl) t:=by
 intro ρ gs w sl t h hK h0 hN;have Y:=h.acc;rw[hN]at Y;revert hK gs w sl t
 induction Y with
 |intro ρ _ ih=>
  intro gs w sl t h hK h0 hN;obtain⟨i,g,d,U,hi,hg,ac⟩:=cq (P:=P) (w:=w) (sl:=sl) (h.awake h0 (.inl O)) ⟨0,a,h0,O⟩;refine Z.back _ _ ?_;rw[ac];rcases cD i with rfl|aa
  .exact hm ρ gs w sl U d t (h.at d) hK h0 hN
  .obtain⟨gs',w',ops,ρ',hr,ad,ae,ab,af,hz,_,_⟩:=(h.at d).other (sl:=U) aa hi hg h0 λJ mi S n _ _ _ _ _ _=>bU (by rw[O]; simp) ..;rw[hr];refine Z.next _ _ _ _ (ih ρ' (hN▸ae) gs' w' U _ ad (λj=>(ab j).trans (hK j)) ?_ (af.trans hN));rcases hz with⟨x,_⟩|x
   .exact x
   .rw[x,cy _ (.inl O)]
theorem Co.UJ{i:Nat}{g₁:Goroutine}{n s r s' r':Nat}{v z:Value}{u:List MemOp}(h:Co P jl w0 Pd ρ m wl gs w t)(hi:0<i)(ae:ρ i=.lO J mi S n v)(am:gs[i]?=some (parked g₁ #[ce J.c v z] .send))(hc:w.heap[J.c]?=some (.chan 0 #[] false s r false))
  (ai:w₁={w with heap:=w.heap.setIfInBounds J.c (.chan 0 #[] false s' r' false)}) (hu:∀op∈u,op.act.touch?=none) (av:∀op∈u,op.act≠.mark .disable/\op.act≠.mark .enable)
  (aw:gs'.size=gs.size) (an:gs'[i]?=some (bW g₁ dR)) (ax:∀j,0<j->j≠i->gs'[j]?=gs[j]?) :
  ∃ac,Co P jl w0 Pd (cK ρ i (.act J ac S (n+1))) m wl gs' w₁ (t++u.toArray):=by
 subst ai;have a6:i<gs.size:=(bo.1 am).1;have ao:J.c<w.heap.size:=mF hc;have Y:w.heap.size<=(w.heap.setIfInBounds J.c (.chan 0 #[] false s' r' false)).size:=by simp
 have aj:∃a b x s y t,w.heap[J.c]?=some (.chan a b x s y t):=⟨_,_,_,_,_,_,hc⟩;have ap:=h.at_ i _ hi am;rw[ae]at ap;obtain⟨ay,_,g0,z0,eg,aq⟩:=ap
 have e0:g0=g₁\/bW g0 dR=bW g₁ dR:=by
  obtain⟨v0,fr',cs',e',_⟩:=aq.uv;subst e';refine .inr ?_;have:=congrArg (λg:Goroutine=>bW g dR) eg;exact this.symm
 have ag:bW g0 dR=bW g₁ dR:=e0.elim (λe=>by rw[e]) id;obtain⟨ac,a7,hb,hl,ad⟩:=aq.done;have ak:(ρ i).u9=some J:=by rw[ae]; rfl
 have ar:(ρ i).pA=some mi:=by rw[ae]; rfl
 refine⟨ac,?_⟩
 have kj:∀j,(cK ρ i (.act J ac S (n+1)) j).u9=(ρ j).u9:=λj=>by
  by_cases e:j=i
  .subst e; rw[cI,ae]; rfl
  .rw[cJ _ _ e]
 have kc:∀j,(cK ρ i (.act J ac S (n+1)) j).chan=(ρ j).chan:=λj=>by
  by_cases e:j=i
  .subst e; rw[cI,ae]; rfl
  .rw[cJ _ _ e]
 have kr:∀j m',(cK ρ i (.act J ac S (n+1)) j).pA=some m'->∃aa,(ρ j).pA=some aa/\m'.blk=aa.blk/\m'.loose=aa.loose:=λj m' hx=>by
  by_cases e:j=i
  .subst e; rw[cI]at hx; cases hx; exact⟨mi,ar,hb,hl⟩
  .rw[cJ _ _ e]at hx; exact⟨m',hx,rfl,rfl⟩
 have kl:∀j m',(cK ρ i (.act J ac S (n+1)) j).live=some m'->∃aa,(ρ j).live=some aa/\m'.blk=aa.blk/\m'.loose=aa.loose:=λj m' hx=>by
  by_cases e:j=i
  .subst e; rw[cI]at hx; cases hx; exact⟨mi,by rw[ae]; rfl,hb,hl⟩
  .rw[cJ _ _ e]at hx; exact⟨m',hx,rfl,rfl⟩
 have U:∀op∈u.toArray,op∈u:=λop O=>by simpa using O
 refine⟨h.main.rely (nw h.main aj) Y rfl,λj x au hx=>?_,λj hj=>?_,λj m' ab=>?_,λj k m1 m2 al h1 h2=>?_,λj k J1 J2 al h1 h2=>h.cc j k J1 J2 al (by rw[<-kj]; exact h1) (by rw[<-kj]; exact h2),h.s0.mute λop O=>hu op (U op O),λj m' ab=>?_,λj J' af p a ha hb=>?_,λp a b ha hb=>?_,h.hears.append λop O=>av op (U op O),?_,λsaid=>tM hu (h.clean said),λb hb=>?_,h.f0,λj m' ab r b hr hb=>?_,λj J' af=>h.cx j J' (by rw[<-kj]; exact af),cC h.sz Y,h.os,h.kn.app (λj m' r b ab hx=>?_) (λop O a b ha _ _=>by rw[hu op (U op O)]at ha; cases ha),h.pd.app kj (λc az _=>bm ((h.pd c az).2.2.1 i J ak)) (λop O a c ha _ _=>by rw[hu op (U op O)]at ha; cases ha),h.len.same kj⟩
 .by_cases e:j=i
  .subst e;rw[an]at hx;cases hx;rw[cI,<-ag];obtain⟨fr,cs,e,ah⟩:=ad.uv;exact⟨ay,⟨s',r',by simp[ao]⟩,ad.pA,ad.pW,⟨fr,cs,e,ah.rely (nw ah.world aj) Y rfl⟩,ad.jU⟩
  .rw[cJ _ _ e];rw[ax j au e]at hx;refine(h.at_ j x au hx).rely (λm' ab=>?_) (λJ' af=>?_) Y rfl λop O _=>hu op (U op O)
   .obtain⟨wl',a0⟩:=h.wr ab;exact nw a0 aj
   .exact bm (h.cc i j J J' (dH e) ak af)
 .rw[cJ _ _ (by rintro rfl; rcases hj with x|x<;>omega)];exact h.out j (by rw[<-aw]; exact hj)
 .obtain⟨aa,h1,h2,h3⟩:=kr j m' ab;have:=h.d0 j aa h1;unfold qy at this⊢;rw[h2,h3];exact this
 .obtain⟨a4,a1,a2,a3⟩:=kr j m1 h1;obtain⟨a5,b1,b2,b3⟩:=kr k m2 h2;have:=h.dd j k a4 a5 al a1 b1;unfold qy at this⊢;rw[a2,a3,b2,b3];exact this
 .obtain⟨aa,h1,h2,h3⟩:=kl j m' ab;have:=(h.ss j aa h1).mute (u:=u.toArray) λop O=>hu op (U op O);unfold pP at this⊢;rw[h2,h3];exact this
 .rw[kc]at af;rcases ii ha with⟨_,h1⟩|⟨op,h1,_,h3⟩
  .exact h.MJ j J' af p a h1 hb
  .rw[hu op (U op h1)]at h3; cases h3
 .rcases ii ha with⟨_,h1⟩|⟨op,h1,_,h3⟩
  .exact cA (h.low p a b h1 hb) Y
  .rw[hu op (U op h1)]at h3; cases h3
 .refine(h.nh.mono λj hj=>?_).app λop O=>.inl (hu op (U op O));by_cases e:j=i
  .subst e; rw[cI]; simp[iw.sum]
  .rw[cJ _ _ e]; exact hj
 .obtain⟨h1,h2⟩:=h.fix b hb;refine⟨cA h1 Y,?_⟩;rw[<-h2];exact bm (by rintro rfl; exact h.cx i J ak hb)
 .obtain⟨aa,h1,h2,h3⟩:=kr j m' ab;rw[h2]at hr;rw[h3];exact h.ff j aa h1 r b hr hb
 .by_cases e:j=i
  .subst e;rw[ar]at ab;cases ab;exact⟨j,ac,r,by rw[cI]; rfl,by rw[hb]; exact hx⟩
  .exact⟨j,m',r,by rw[cJ _ _ e]; exact ab,hx⟩
theorem Co.hear{i:Nat}{q:Nat}{fn:bJ}{pos:String}(h:Co P jl w0 Pd ρ m wl gs w t)(hi:0<i)(U:ρ i=.ended false J mi S q)(ae:gs'.size=gs.size)(af:∀j,0<j->gs'[j]?=gs[j]?) :
  Co P jl w0 Pd (cK ρ i (.ended true J mi S q)) m wl gs' w (t++#[{g:=0,fn,pos,act:=.recvClosed J.c}]):=by
 have hu:∀op∈(#[{g:=0,fn,pos,act:=.recvClosed J.c}]:Array MemOp),op.act.touch?=none:=by
  intro op O;simp at O;subst O;rfl
 have key:∀{α:Type}(f:iw->α),f (.ended true J mi S q)=f (ρ i)->∀j,f (cK ρ i (.ended true J mi S q) j)=f (ρ j):=λf hf j=>by
  by_cases e:j=i
  .subst e; rw[cI]; exact hf
  .rw[cJ _ _ e]
 have kr:=key iw.pA (by rw[U]; rfl);have kj:=key iw.u9 (by rw[U]; rfl);have kl:=key iw.live (by rw[U]; rfl);have kc:=key iw.chan (by rw[U]; rfl);obtain⟨gi,_,ac,ag⟩:=h.get (i:=i) (by rw[U]; simp);have ah:i<gs.size:=(bo.1 ac).1;rw[U]at ag
 have hh:nF (t++#[{g:=0,fn,pos,act:=.recvClosed J.c}]):=h.hears.append λop O=>by
  simp at O;subst O;simp
 have hrel:=λj x hj hx=>(h.at_ j x hj hx).rely (λ_ _ _ _ _=>rfl) (λ_ _=>rfl) (cB _) rfl λop O _=>hu op O
 refine⟨h.main,λj x ad hx=>?_,λj hj=>?_,λj m' Y=>h.d0 j m' (by rw[<-kr]; exact Y),λj k m1 m2 ab h1 h2=>h.dd j k m1 m2 ab (by rw[<-kr]; exact h1) (by rw[<-kr]; exact h2),λj k J1 J2 ab h1 h2=>h.cc j k J1 J2 ab (by rw[<-kj]; exact h1) (by rw[<-kj]; exact h2),h.s0.mute hu,λj m' Y=>(h.ss j m' (by rw[<-kl]; exact Y)).mute hu,λj J' aa p a ha hb=>?_,λp a b ha hb=>?_,hh,?_,λsaid=>by
  have:=tM (u:=[{g:=0,fn,pos,act:=.recvClosed _}]) (by simpa using hu) (h.clean said)
  simpa using this,h.fix,h.f0,λj m' Y=>h.ff j m' (by rw[<-kr]; exact Y),λj J' aa=>h.cx j J' (by rw[<-kj]; exact aa),h.sz,h.os,h.kn.app (λj m' r b Y hx=>⟨j,m',r,by rw[kr]; exact Y,hx⟩) (λop O a b ha _ _=>by rw[hu op O]at ha; cases ha),h.pd.app kj (λ_ _ _=>rfl) (λop O a c ha _ _=>by rw[hu op O]at ha; cases ha),h.len.same kj⟩
 .rw[af j ad]at hx;have:=hrel j x ad hx;by_cases e:j=i
  .subst e;rw[cI];rw[U]at this;exact this
  .rw[cJ _ _ e]; exact this
 .rw[cJ _ _ (by rcases hj with x|x<;>omega)];exact h.out j (by rw[<-ae]; exact hj)
 .rw[kc]at aa;rcases ii ha with⟨_,h1⟩|⟨op,h1,_,h3⟩
  .exact h.MJ j J' aa p a h1 hb
  .rw[hu op h1]at h3; cases h3
 .rcases ii ha with⟨_,h1⟩|⟨op,h1,_,h3⟩
  .exact h.low p a b h1 hb
  .rw[hu op h1]at h3; cases h3
 .obtain⟨_,_,_,_,_,pc,y,g1,g2,g3,g4⟩:=hrel i gi (by omega) ac |> λx=>by rw[U]at x; exact x
  have hj:=(h.nh.app (u:=#[{g:=0,fn,pos,act:=.recvClosed _}]) λop O=>.inl (hu op O)).join hh (j:=i) (r:={g:=0,fn,pos,act:=.recvClosed _}) (pr:=t.size) g1 g2 g3 (by simp) rfl rfl g4;refine hj.mono λj hx=>?_;rw[cJ _ _ hx.2];exact hx.1
end
end
section
open Go.Conc
open Go.ConcN (upd upd_same upd_ne)
variable {J:pC} {c n:Nat} {r:iw}
structure yL(P:Program)(a:Goroutine)(cases:Array CommCase)(chans:Nat->Option Nat)(K:Nat->Option (pC×Nat)):Prop where
 run:a.status=.running
 step:∀w,bx P true a w=.comm a cases true .select w #[]
 UM:∀w,bx P true {parked a cases .select with status:=.running} w=.comm a cases true .select w #[]
 cs:∀(k:Nat)cc,cases[k]?=some cc->∃z,cc=⟨.chan (chans k),none,z⟩
 V0:∀k k' c,k<cases.size->k'<cases.size->chans k=some c->chans k'=some c->k=k'
 own:∀k c,k<cases.size->chans k=some c->∃i J n,K i=some (J,n)/\J.c=c
 some_:∃k c,k<cases.size/\chans k=some c
 flat:∀i J n,K i=some (J,n)->∀v∈J.L,∀(m:Ren)v',VR m v v'->v'=v
section
variable {P:Program} {jl:Nat->Prop} {w0:World} {Pd:Nat->Prop} {ρ:Nat->iw} {m:Ren} {wl:World} {gs gs':Array Goroutine} {w w₁:World} {t:b6} {sl:Option (Nat×Nat)} {a:Goroutine} {cases:Array CommCase} {chans:Nat->Option Nat} {K:Nat->Option (pC×Nat)}
theorem yL.get(h:yL P a cases chans K){k:Nat}(O:k<cases.size):∃z,cases[k]?=some ⟨.chan (chans k),none,z⟩:=by
 obtain⟨z,U⟩:=h.cs k _ (bn O);exact⟨z,by rw[bn O,U]⟩
theorem yL.offers(h:yL P a cases chans K){k:Nat}(hk:k<cases.size)(hc:chans k=some c):bZ (parked a cases .select) c false=[k]:=by
 obtain⟨z,hz⟩:=h.get hk
 have O:∀m:Nat,cases.zipIdx.toList[m]?=(cases[m]?).map λx=>(x,m):=by
  simp
 have:=filter_map_one (id:CommCase×Nat->CommCase×Nat) (λ(Y,_)=>Y.send.isSome==false&&(match Y.chan with|.chan (some r')=>r'==c|_=>false)) _ k _ (by rw[O,hz]; rfl) (by simp[hc]) (λm x hm U=>by
  rw[O]at U
  cases e:cases[m]? with
  |none=>rw[e]at U; cases U
  |some y=>
   rw[e]at U;simp only[dL,dc]at U;subst U;obtain⟨z',rfl⟩:=h.cs m y e;have aa:=(bo.1 e).1
   cases ab:chans m with
   |none=>simp
   |some Y=>
    have:Y≠c:=by
     rintro rfl;exact hm (h.V0 m k Y aa hk ab hc)
    simp[this])
 simp only[List.map_id]at this;exact congrArg _ this
theorem yL.FF(h:yL P a cases chans K)(hc:∀k,k<cases.size->chans k≠some c):bZ (parked a cases .select) c false=[]:=by
 have:(cases.zipIdx.toList.filter λ(O,_)=>O.send.isSome==false&&(match O.chan with|.chan (some r')=>r'==c|_=>false))=[]:=by
  rw[List.filter_eq_nil_iff];rintro⟨cc,k⟩ hm;have e:=by simpa using Array.mem_zipIdx_iff_getElem?.1 (Array.mem_toList_iff.1 hm)
  obtain⟨z',rfl⟩:=h.cs k cc e;have U:=(bo.1 e).1
  cases Y:chans k with
  |none=>simp
  |some O=>
   have:O≠c:=by
    rintro rfl;exact hc k U Y
   simp[this]
 exact congrArg _ this
theorem At.KT{i:Nat}{g:Goroutine}(h:At P w t i g r)(c:Nat):bZ g c true=[]\/∃J m S n v,r=.lO J m S n v/\J.c=c/\bZ g c true=[0]:=by
 cases r with
 |quit q=>exact .inl (bU (by rcases Lv.status h with x|x<;>rw[x]<;>simp) ..)
 |ended O J m S q=>exact .inl (bU (by rcases h.1.status with x|x<;>rw[x]<;>simp) ..)
 |act J m S n=>
  obtain⟨_,_,h⟩:=h;obtain⟨fr,cs,rfl,_⟩:=h.uv;exact .inl (bU (by simp[G]) ..)
 |lO J m S n v=>
  obtain⟨_,_,g0,z,rfl,_⟩:=h;rw[cm];by_cases e:J.c=c
  .exact .inr ⟨_,_,_,_,_,rfl,e,by rw[if_pos e]⟩
  .exact .inl (by rw[if_neg e])
 |start J m S k=>exact .inl (bU (by rw[h.2.2.2.2.2.2.status]; simp) ..)
theorem iw.zH(h:r.sum=some (J,n)):r.u9=some J:=by
 cases r with
 |quit q=>cases h
 |ended O U m S q=>cases O<;>first|(cases h; rfl)|cases h
 |act=>cases h; rfl
 |lO=>cases h; rfl
 |start=>cases h; rfl
theorem Co.ways(h:Co P jl w0 Pd ρ m wl gs w t){i:Nat}(hs:(ρ i).sum=some (J,n))(z:Value) :
  (∃m S v,ρ i=.lO J m S n v/\b8 w (gs.setIfInBounds 0 ph) (bX J.c z)=[.partner i 0]/\j8 w J.c false)\/(∃m S q,ρ i=.ended false J m S q/\n=J.L.length/\b8 w (gs.setIfInBounds 0 ph) (bX J.c z)=[.closed]/\j8 w J.c true)\/(((∃m S,ρ i=.act J m S n)\/∃m S k,ρ i=.start J m S k)/\b8 w (gs.setIfInBounds 0 ph) (bX J.c z)=[]/\j8 w J.c false):=by
 obtain⟨g,hi,hg,Y⟩:=h.get (i:=i) λe=>by rw[e]at hs; cases hs
 have aa:=iw.zH hs
 have O:(∀m S n v,ρ i≠.lO J m S n v)->bD (gs.setIfInBounds 0 ph) J.c true=[]:=by
  intro ad;refine c3 λj x hx=>?_;rcases cf gs 0 j x hx with⟨_,rfl⟩|⟨hj,hx⟩
  .exact ci ..
  .rcases(h.at_ j x (by omega) hx).KT _ with e|⟨J',m',S',n',v',e,ec,_⟩
   .exact e
   .by_cases ac:j=i
    .subst ac;rw[e]at aa;cases aa;exact absurd e (ad _ _ _ _)
    .exact absurd ec.symm (h.cc i j J J' (dH ac) aa (by rw[e]; rfl))
 cases U:ρ i with
 |quit q=>rw[U]at hs; cases hs
 |ended hd J' m' S q=>
  rw[U]at hs Y
  cases hd with
  |true=>cases hs
  |false=>
   cases hs;obtain⟨_,_,_,_,⟨s,r,hc⟩,_⟩:=Y;refine .inr (.inl ⟨m',S,q,rfl,rfl,?_,s,r,hc⟩);simp[b8,bX,hc,O (by rw[U]; simp)]
 |act J' m' S n'=>
  rw[U]at hs Y;cases hs;obtain⟨_,⟨s,r,hc⟩,_⟩:=Y;refine .inr (.inr ⟨.inl ⟨m',S,rfl⟩,?_,s,r,hc⟩);simp[b8,bX,hc,O (by rw[U]; simp)]
 |start J' m' S k=>
  rw[U]at hs Y;cases hs;obtain⟨_,⟨s,r,hc⟩,_⟩:=Y;refine .inr (.inr ⟨.inr ⟨m',S,k,rfl⟩,?_,s,r,hc⟩);simp[b8,bX,hc,O (by rw[U]; simp)]
 |lO J' m' S n' v=>
  rw[U]at hs;cases hs;have ab:=Y;rw[U]at ab;obtain⟨_,⟨s,r,hc⟩,g0,z0,rfl,_⟩:=ab;refine .inl ⟨m',S,v,rfl,?_,s,r,hc⟩
  have hp:bD (gs.setIfInBounds 0 ph) J.c true=[(i,0)]:=by
   rw[c2 (j:=i) (g:=parked g0 ..) (by rw[bm (by omega)]; exact hg) λj x hj hx=>?_]
   .rw[cm,if_pos rfl]; rfl
   .rcases cf gs 0 j x hx with⟨_,rfl⟩|⟨ae,hx⟩
    .exact ci ..
    .rcases(h.at_ j x (by omega) hx).KT _ with e|⟨J2,m2,S2,n2,v2,e,ec,_⟩
     .exact e
     .exact absurd ec.symm (h.cc i j J J2 (dH hj) aa (by rw[e]; rfl))
  simp[b8,bX,hc,hp]
theorem yV{i k cap s r:Nat}{buf:Array Value}{tm:Bool}{v z:Value}{g uA:Goroutine}{es:Array Event}(hi:gs[i]?=some g)(h:bx P (i==0) g w=.comm uA #[ce c v z] true .send w₁ es)(hc:w₁.heap[c]?=some (.chan cap buf false s r tm))(ad:0<i)(h0:gs[0]?=some (parked a cases .select))(hp:bD (gs.setIfInBounds i ph) c false=[(0,k)])(hk:∃cc,cases[k]?=some cc/\cc.send=none) :
  bN P (bY gs w sl) i=(.next (bY ((gs.setIfInBounds 0 (a.finishComm P cases .select k v true)).setIfInBounds i (bW uA dR)) {w₁ with heap:=w₁.heap.setIfInBounds c (.chan cap buf false (s+1) (r+1) tm)} sl),
   db i g.frame.fn g.frame.place es++[({g:=i,fn:=uA.frame.fn,pos:=uA.frame.place,act:=.send c s}:MemOp),{g:=0,fn:=a.frame.fn,pos:=a.frame.place,act:=.recv c r cap},{g:=i,fn:=uA.frame.fn,pos:=uA.frame.place,act:=.sendDone c s},{g:=0,fn:=a.frame.fn,pos:=a.frame.place,act:=.recvDone c r}].toArray):=by
 rw[cv hi h];have U:(0)≠i:=by omega
 have O:=stand_get (i:=i) U h0;have Y:=cu P _ O (cs:=cases) (sh:=.select) rfl k v;have aa:(gs.setIfInBounds i ph).getD 0 default=parked a cases .select:=by rw[bt,O]; rfl
 obtain⟨cc,ab,ac⟩:=hk;simp[bz,b8,ce,hc,hp,choose,cM,dI,bind,cP,pure,bY,Y,aa,set_stand2,finishComm_parked,ab,ac,parked];rfl
end
end
section
open Go.Conc
open Go.ConcN (upd upd_same upd_ne)
variable {f f':bJ} {c cap r s:Nat} {p p':String}
section
variable {P:Program} {jl:Nat->Prop} {w0:World} {Pd:Nat->Prop} {m:Ren} {wl:World} {a:Goroutine} {cases:Array CommCase} {chans:Nat->Option Nat} {K:Nat->Option (pC×Nat)}
theorem PU{ρ:Nat->iw}{i:Nat}{r:iw}{x:Option (pC×Nat)}(O:∀j,(ρ j).sum=K j)(U:r.sum=x)(j:Nat):(cK ρ i r j).sum=cK K i x j:=by
 by_cases e:j=i
 .subst e; rw[cI,cI]; exact U
 .rw[cJ _ _ e,cJ _ _ e]; exact O j
theorem Db{i:Nat}:∀op∈([{g:=i,fn:=f,pos:=p,act:=.send c s},{g:=0,fn:=f',pos:=p',act:=.recv c r cap},{g:=i,fn:=f,pos:=p,act:=.sendDone c s},{g:=0,fn:=f',pos:=p',act:=.recvDone c r}]:List MemOp),op.act.touch?=none:=by
 intro op O;simp only[cS,cR,or_false]at O;rcases O with rfl|rfl|rfl|rfl<;>rfl
theorem Aa{i:Nat}:∀op∈([{g:=i,fn:=f,pos:=p,act:=.send c s},{g:=0,fn:=f',pos:=p',act:=.recv c r cap},{g:=i,fn:=f,pos:=p,act:=.sendDone c s},{g:=0,fn:=f',pos:=p',act:=.recvDone c r}]:List MemOp),op.act≠.mark .disable/\op.act≠.mark .enable:=by
 intro op O;simp only[cS,cR,or_false]at O;rcases O with rfl|rfl|rfl|rfl<;>simp
def O9(ρ:Nat->iw)(cases:Array CommCase)(chans:Nat->Option Nat)(K:Nat->Option (pC×Nat)):Prop:=
 ∀k c,k<cases.size->chans k=some c->∃i J n,K i=some (J,n)/\J.c=c/\((∃m S,ρ i=.act J m S n)\/∃m S k,ρ i=.start J m S k)
theorem select{Z:lQ P}{N:Nat}(hS:yL P a cases chans K)
  (hv:∀(k i:Nat)J n v,k<cases.size->chans k=some J.c->K i=some (J,n)->J.L[n]?=some v->∀ρ gs w sl t,Co P jl w0 Pd ρ m wl gs w t->(∀j,(ρ j).sum=cK K i (some (J,n+1)) j)->gs[0]?=some (a.finishComm P cases .select k v true)->gs.size=N->Z.Up (bY gs w sl) t)
  (he:∀(k i:Nat)J z,cases[k]?=some (bX J.c z)->chans k=some J.c->K i=some (J,J.L.length)->∀ρ gs w sl t,Co P jl w0 Pd ρ m wl gs w t->(∀j,(ρ j).sum=cK K i none j)->gs[0]?=some (a.finishComm P cases .select k z false)->gs.size=N->Z.Up (bY gs w sl) t) :
  ∀ρ gs w sl t,Co P jl w0 Pd ρ m wl gs w t->(∀j,(ρ j).sum=K j)->gs[0]?=some a->gs.size=N->Z.Up (bY gs w sl) t:=by
 have key:∀ρ,Acc (Jl (lm P) N) ρ->∀gs w sl t,Co P jl w0 Pd ρ m wl gs w t->(∀j,(ρ j).sum=K j)->gs.size=N->((∃a',gs[0]?=some a'/\a'.status=.running/\∀w,bx P true a' w=.comm a cases true .select w #[])\/(gs[0]?=some (parked a cases .select)/\O9 ρ cases chans K))->Z.Up (bY gs w sl) t:=by
  intro ρ aM
  induction aM with
  |intro ρ _ ih=>
   have hB:∀gs w sl t,Co P jl w0 Pd ρ m wl gs w t->(∀j,(ρ j).sum=K j)->gs.size=N->gs[0]?=some (parked a cases .select)->O9 ρ cases chans K->Z.Up (bY gs w sl) t:=by
    intro gs w sl t h hK hN h0 hW
    have av:∃(i:Nat)(g:Goroutine),gs[i]?=some g/\g.status=.running:=by
     obtain⟨k,c,Y,hc⟩:=hS.some_;obtain⟨i,J,n,U,_,hr⟩:=hW k c Y hc;obtain⟨g,hi,hg,ad⟩:=h.get (i:=i) λe=>by rcases hr with⟨_,_,x⟩|⟨_,_,_,x⟩<;>rw[e]at x<;>cases x
     refine⟨i,g,hg,?_⟩;rcases hr with⟨_,_,x⟩|⟨_,_,_,x⟩
     .rw[x]at ad;obtain⟨_,_,ad⟩:=ad;obtain⟨fr,cs,rfl,_⟩:=ad.uv;rfl
     .rw[x]at ad;exact ad.2.2.2.2.2.2.status
    obtain⟨i,g,d,ae,hi,hg,ay⟩:=cq (P:=P) (w:=w) (sl:=sl) (h.awake h0 (.inr (.inl rfl))) av;refine Z.back _ _ ?_;rw[ay]
    have ab:0<i:=by
     rcases cD i with rfl|ab
     .rw[h0]at hi;cases hi;cases hg
     .exact ab
    have aV:(i==0)=false:=by simp; omega
    have al:i<gs.size:=(bo.1 hi).1;have O:=h.at d;by_cases az:∃J mi S n g₁ cs w₁ es,ρ i=.act J mi S n/\bx P false g (w.at d)=.comm g₁ cs true .send w₁ es/\bZ (parked a cases .select) J.c false≠[]
    .obtain⟨J,mi,S,n,g₁,cs,w₁,es,ac,ao,aW⟩:=az;have ad:=O.at_ i g ab hi;rw[ac]at ad;obtain⟨aw,⟨s,r,hc⟩,a8⟩:=ad
     have aN:¬J.Stop S:=by
      intro aB;obtain⟨hn,fr,ps,a',ty,cs',rfl,hm,hd,hq,bh⟩:=a8.stands aw aB;rw[closing (P:=P) (ps:=ps) hm hd hq hc]at ao;cases ao
     have aO:=a8.DC aw aN;rw[ao]at aO
     cases aO with
     |@send S' gE _ _ _ v' z' bi aX af Y aY=>
      have a0:(ρ i).live=some mi:=by rw[ac]; rfl
      obtain⟨bj,aZ⟩:=O.wr (iw.qu a0);have ap:=Y.chan aZ hc
      obtain⟨k,aC,aP⟩:∃k,k<cases.size/\chans k=some J.c:=by
       apply dr;intro aq;exact aW (hS.FF λk Y hc=>aq ⟨k,Y,hc⟩)
      obtain⟨zk,ag⟩:=hS.get aC
      have hp:bD (gs.setIfInBounds i ph) J.c false=[(0,k)]:=by
       rw[c2 (j:=0) (g:=parked a cases .select) (by rw[bm (by omega)]; exact h0) λj x hj hx=>?_]
       .rw[hS.offers aC aP]; rfl
       .rcases cf gs i j x hx with⟨_,rfl⟩|⟨_,hx⟩
        .exact ci _ _
        .exact(O.at_ j x (by omega) hx).offers J.c
      have ar:=yV (P:=P) (sl:=ae) hi (by rw[aV]; exact ao) ap ab h0 hp ⟨_,ag,rfl⟩;rw[ar];refine Z.next _ _ _ _ ?_;obtain⟨v0,fr',cs',e,aQ⟩:=af.uv;obtain⟨f0,bk,_,_,_,_,_,_,_,ba,_⟩:=aQ.uv
      have h1:Co P jl w0 Pd (cK ρ i (.lO J gE S' n v')) m wl (gs.setIfInBounds i (parked g₁ #[ce J.c v' z'] .send)) w₁ (t++db i g.frame.fn g.frame.place es):=
       O.step (gs':=gs.setIfInBounds i (parked g₁ #[ce J.c v' z'] .send)) ab al a0 aX Y aY ba ⟨aw,⟨s,r,ap⟩,g₁,z',rfl,af⟩ rfl (by rw[ac]; rfl) (by rw[ac]; rfl) (by rw[ac]; rfl) (by simp) (by simp[al]) (BJ _)
      obtain⟨bc,h2⟩:=h1.UJ (gs':=(gs.setIfInBounds 0 (a.finishComm P cases .select k v' true)).setIfInBounds i (bW g₁ dR)) (g₁:=g₁) (z:=z') (u:=[({g:=i,fn:=g₁.frame.fn,pos:=g₁.frame.place,act:=.send J.c s}:MemOp),{g:=0,fn:=a.frame.fn,pos:=a.frame.place,act:=.recv J.c r 0},{g:=i,fn:=g₁.frame.fn,pos:=g₁.frame.place,act:=.sendDone J.c s},{g:=0,fn:=a.frame.fn,pos:=a.frame.place,act:=.recvDone J.c r}]) ab (cI _ _ _) (by simp[al]) ap (s':=s+1) (r':=r+1) rfl Db Aa (by simp) (by simp[al]) (λj hj a7=>by
       rw[bm (dH a7),bm (by omega),bm (dH a7)])
      obtain⟨v1,aR,aD⟩:=af.value aw;have U:K i=some (J,n):=by rw[<-hK i,ac]; rfl
      have ev:v'=v1:=hS.flat i J n U v1 (cW aR) _ _ aD;subst ev;rw[<-Array.append_assoc];refine hv k i J n v' aC aP U aR _ _ _ ae _ h2 (λj=>?_) (by rw[bm (by omega),br (by omega)]) (by simp[hN]);by_cases ej:j=i
      .subst ej; rw[cI,cI]; rfl
      .rw[cJ _ _ ej,cJ _ _ ej,cJ _ _ ej]; exact hK j
    .obtain⟨gs',w',ops,ρ',hr,ai,aE,aj,aF,hz,bd,aG⟩:=O.other (sl:=ae) ab hi hg h0 λJ mi S n g₁ cs w₁ es h1 h2=>dr λh3=>az ⟨J,mi,S,n,g₁,cs,w₁,es,h1,h2,h3⟩;rw[hr];refine Z.next _ _ _ _ (ih ρ' (hN▸aE) gs' w' ae (t++ops) ai (λj=>(aj j).trans (hK j)) (aF.trans hN) ?_)
     have a9:(∀k c,k<cases.size->chans k=some c->¬j8 w' c true)->O9 ρ' cases chans K:=by
      intro ak k c Y hc;obtain⟨i',J,n,U,aa,aH⟩:=hW k c Y hc;refine⟨i',J,n,U,aa,?_⟩;rcases ai.ways (i:=i') (J:=J) (n:=n) ((aj i').trans ((hK i').trans U)) dR with⟨m1,S1,v1,e,_⟩|⟨m1,S1,q1,e,_,_,mP⟩|⟨e,_⟩
      .by_cases ei:i'=i
       .subst ei;have:=bd J m1 S1 n v1 e;rw[aa,hS.offers Y hc]at this;cases this
       .rw[aG i' ei]at e;rcases aH with⟨_,_,x⟩|⟨_,_,_,x⟩<;>rw[e]at x<;>cases x
      .exact absurd (aa▸mP) (ak k c Y hc)
      .exact e
     have a3:(∀j,(ρ' j).chan=(ρ j).chan)->∀k c,k<cases.size->chans k=some c->¬j8 w' c true:=by
      intro ax k c Y hc mP;obtain⟨i',J,n,U,aa,aH⟩:=hW k c Y hc
      have aS:(ρ' i').chan=some J:=by
       rw[ax];rcases aH with⟨_,_,x⟩|⟨_,_,_,x⟩<;>rw[x]<;>rfl
      obtain⟨s1,r1,mP⟩:=mP;rcases ai.ways (i:=i') (J:=J) (n:=n) ((aj i').trans ((hK i').trans U)) dR with⟨m1,S1,v1,e,_,s2,r2,hx⟩|⟨m1,S1,q1,e,_,_,_⟩|⟨e,_,s2,r2,hx⟩
      .rw[aa,mP]at hx; cases hx
      .rw[e]at aS; cases aS
      .rw[aa,mP]at hx; cases hx
     rcases hz with⟨hx,ax⟩|hx
     .exact .inr ⟨hx,a9 (a3 ax)⟩
     .by_cases mP:∃k c,k<cases.size/\chans k=some c/\j8 w' c true
      .obtain⟨k,c,Y,hc,s1,r1,mP⟩:=mP;refine .inl ⟨{parked a cases .select with status:=.running},?_,rfl,hS.UM⟩;rw[hx];obtain⟨zk,ag⟩:=hS.get Y;rw[hc]at ag
       have a4:(cases.any λc:CommCase=>match c.chan with
         |.chan (some r)=>(w'.heap[r]? matches some (.chan _ _ true ..))
         |_=>false)=true:=by
        rw[Array.any_eq_true];refine⟨k,Y,?_⟩
        have:cases[k]=⟨.chan (some c),none,zk⟩:=by
         rw[bn Y]at ag;exact de ag
        simp[this,mP]
       unfold dC;simp only[parked];exact congrArg some (if_pos a4)
      .have ak:∀k c,k<cases.size->chans k=some c->¬j8 w' c true:=λk c Y hc hx=>mP ⟨k,c,Y,hc,hx⟩;refine .inr ⟨?_,a9 ak⟩;rw[hx]
       have a4:(cases.any λc:CommCase=>match c.chan with
         |.chan (some r)=>(w'.heap[r]? matches some (.chan _ _ true ..))
         |_=>false)=false:=by
        rw[Array.any_eq_false];intro k Y;obtain⟨zk,ag⟩:=hS.get Y
        have e:cases[k]=⟨.chan (chans k),none,zk⟩:=by
         rw[bn Y]at ag;exact de ag
        cases am:chans k with
        |none=>rw[am]at e; simp[e]
        |some c=>
         rw[am]at e;obtain⟨i',J,n,U,aa⟩:=hS.own k c Y am;have no:=ak k c Y am;rcases ai.ways (i:=i') (J:=J) (n:=n) ((aj i').trans ((hK i').trans U)) dR with⟨_,_,_,_,_,s2,r2,hx⟩|⟨_,_,_,_,_,_,hx⟩|⟨_,_,s2,r2,hx⟩
         .rw[aa]at hx; simp[e,hx]
         .exact absurd (aa▸hx) no
         .rw[aa]at hx; simp[e,hx]
       unfold dC;simp only[parked];exact congrArg some (if_neg (by rw[dy]; exact a4))
   intro gs w sl t h hK hN ay;rcases ay with⟨a',h0,an,a5⟩|⟨h0,hW⟩
   .obtain⟨i,g,d,ae,hi,hg,ay⟩:=cq (P:=P) (w:=w) (sl:=sl) (h.awake h0 (.inl an)) ⟨0,a',h0,an⟩;refine Z.back _ _ ?_;rw[ay];have O:=h.at d;rcases cD i with rfl|ab
    .obtain rfl:g=a':=by rw[h0]at hi; exact(de hi).symm
     have al:0<gs.size:=(bo.1 hi).1;have ao:bx P (0==0) g (w.at d)=.comm a cases true .select (w.at d) #[]:=a5 (w.at d);have e0:db 0 g.frame.fn g.frame.place #[]=#[]:=by rw[cj]; simp
     have made:∀cc∈cases,c4 (w.at d) cc=false:=by
      intro cc ah;obtain⟨k,Y,rfl⟩:=bq.1 ah;obtain⟨z,hz⟩:=hS.cs k cases[k] (bn Y);rw[hz]
      cases am:chans k with
      |none=>rfl
      |some c=>
       obtain⟨i',J,n,U,aa⟩:=hS.own k c Y am;obtain⟨cl,s,r,hx⟩:=O.is (iw.zH ((hK i').trans U));rw[aa]at hx;simp[c4,hx]
     have one:∀(k:Nat)cc,cases[k]?=some cc->(b8 (w.at d) (gs.setIfInBounds 0 ph) cc=[])\/∃i J n,chans k=some J.c/\K i=some (J,n)/\(∃z,cc=bX J.c z)/\((∃m S v,ρ i=.lO J m S n v/\b8 (w.at d) (gs.setIfInBounds 0 ph) cc=[.partner i 0]/\j8 (w.at d) J.c false)\/(∃m S q,ρ i=.ended false J m S q/\n=J.L.length/\b8 (w.at d) (gs.setIfInBounds 0 ph) cc=[.closed]/\j8 (w.at d) J.c true)):=by
      intro k cc ah;have Y:k<cases.size:=(bo.1 ah).1;obtain⟨z,rfl⟩:=hS.cs k cc ah
      cases am:chans k with
      |none=>exact .inl rfl
      |some c=>
       obtain⟨i',J,n,U,aa⟩:=hS.own k c Y am;subst aa;rcases O.ways ((hK i').trans U) z with⟨m1,S1,v1,x1,x2,x3⟩|⟨m1,S1,q1,x1,x2,x3,x4⟩|⟨_,x2,_⟩
       .exact .inr ⟨i',J,n,rfl,U,⟨z,rfl⟩,.inl ⟨m1,S1,v1,x1,x2,x3⟩⟩
       .exact .inr ⟨i',J,n,rfl,U,⟨z,rfl⟩,.inr ⟨m1,S1,q1,x1,x2,x3,x4⟩⟩
       .exact .inl x2
     by_cases au:∃(k:Nat)(cc:CommCase),cases[k]?=some cc/\b8 (w.at d) (gs.setIfInBounds 0 ph) cc≠[]
     .rcases Cz (P:=P) (sl:=ae) hi ao made (λk cc ah=>by
       rcases one k cc ah with x|⟨i',J,n,_,_,⟨z,rfl⟩,⟨m1,S1,v1,_,x2,s,r,x3⟩|⟨m1,S1,q1,_,_,x3,s,r,x4⟩⟩
       .exact .inl x
       .exact .inr (.inr ⟨J.c,z,_,_,_,_,_,_,_,_,rfl,x3,x2⟩)
       .exact .inr (.inl ⟨J.c,z,_,_,_,_,_,rfl,x4,x3⟩)) au with⟨k,c,z,d',Y,hw,ar⟩|⟨k,c,z,d',j,q,cap,s,r,buf,cl,tm,Y,ax,hw,ar⟩
      .rcases one k _ Y with x|⟨i',J,n,aI,U,⟨z',ez⟩,⟨m1,S1,v1,_,x2,_⟩|⟨m1,S1,q1,ac,hn,_,_⟩⟩
       .rw[x]at hw; cases hw
       .rw[x2]at hw; cases hw
       .have ec:c=J.c:=by simp[bX]at ez; exact ez.1
        subst ec
        have aJ:0<i':=by
         obtain⟨_,x,_,_⟩:=O.get (i:=i') (by rw[ac]; simp);exact x
        rw[ar,e0,bp];refine Z.next _ _ _ _ ?_;have hh:=(O.at d').hear (gs':=gs.setIfInBounds 0 (a.finishComm P cases .select k z false)) (fn:=a.frame.fn) (pos:=a.frame.place) aJ ac (by simp) (λj hj=>bm (by omega));subst hn;exact he k i' J z Y aI U _ _ _ ae _ hh (PU hK rfl) (by simp[al]) (by simpa using hN)
      .rcases one k _ Y with x|⟨i',J,n,aI,U,⟨z',ez⟩,⟨m1,S1,v1,ac,x2,s2,r2,hx⟩|⟨m1,S1,q1,ac,hn,x2,_⟩⟩
       .rw[x]at hw; cases hw
       .have ec:c=J.c:=by simp[bX]at ez; exact ez.1
        subst ec;rw[x2]at hw;obtain⟨rfl,rfl⟩:i'=j/\0=q:=by simpa using hw
        have aA:(w.at d).heap[J.c]?=some (.chan 0 #[] false s2 r2 false):=hx;rw[aA]at ax;cases ax;obtain⟨gi,aJ,aK,ad⟩:=O.get (i:=i') (by rw[ac]; simp);rw[ac]at ad;obtain⟨aw,_,g0,z0,rfl,af⟩:=ad;have aL:(gs.setIfInBounds 0 ph)[i']?=some (parked g0 #[ce J.c v1 z0] .send):=by rw[bm (by omega)]; exact aK
        have be:bL (gs.setIfInBounds 0 ph) i' 0=v1:=by simp[bL,aL,parked,ce]
        have bf:=cu P (gs.setIfInBounds 0 ph) aL (cs:=#[ce J.c v1 z0]) (sh:=.send) rfl 0 dR;have bg:(gs.setIfInBounds 0 ph).getD i' default=parked g0 #[ce J.c v1 z0] .send:=by rw[bt,aL]; rfl
        rw[ar,e0,bp,be,bf,bg];refine Z.next _ _ _ _ ?_;obtain⟨v2,aT,aD⟩:=af.value aw;have ev:v1=v2:=hS.flat i' J n U v2 (cW aT) _ _ aD;subst ev
        obtain⟨bc,hh⟩:=(O.at d').UJ (gs':=(((gs.setIfInBounds 0 ph).setIfInBounds i' ((parked g0 #[ce J.c v1 z0] .send).finishComm P #[ce J.c v1 z0] .send (0:Nat) dR (((#[ce J.c v1 z0]:Array CommCase)[0]?.map (·.send.isNone)).getD false))).setIfInBounds 0 (a.finishComm P cases .select k v1 true))) (g₁:=g0) (z:=z0) (u:=[({g:=i',fn:=g0.frame.fn,pos:=g0.frame.place,act:=.send J.c s}:MemOp),{g:=0,fn:=a.frame.fn,pos:=a.frame.place,act:=.recv J.c r 0},{g:=i',fn:=g0.frame.fn,pos:=g0.frame.place,act:=.sendDone J.c s},{g:=0,fn:=a.frame.fn,pos:=a.frame.place,act:=.recvDone J.c r}]) aJ ac aK aA (s':=s+1) (r':=r+1) rfl Db Aa (by simp) (by
         rw[bm (by omega),br (by simpa using(bo.1 aK).1)]
         rfl) (λj hj a7=>by
         rw[bm (by omega),bm (dH a7),bm (by omega)])
        exact hv k i' J n v1 (bo.1 Y).1 aI U aT _ _ _ ae _ hh (PU hK rfl) (by simp[al]) (by simpa using hN)
       .rw[x2]at hw; cases hw
     .have a6:∀(k:Nat)cc,cases[k]?=some cc->b8 (w.at d) (gs.setIfInBounds 0 ph) cc=[]:=λk cc ah=>dr λhx=>au ⟨k,cc,ah,hx⟩
      have ar:=c5 (P:=P) (sl:=ae) hi ao (λcc ah=>by
       obtain⟨k,Y,rfl⟩:=bq.1 ah
       exact⟨made _ (Array.getElem_mem Y),a6 k _ (bn Y)⟩)
      rw[ar,e0];refine Z.next _ _ _ _ ?_;rw[bs]
      have aU:Co P jl w0 Pd ρ m wl (gs.setIfInBounds 0 (parked a cases .select)) (w.at d) t:=by
       refine⟨O.main,λi g hi hg=>O.at_ i g hi (by rw[bm (by omega)]at hg; exact hg),λi hi=>O.out i (by simpa using hi),O.d0,O.dd,O.cc,O.s0,O.ss,O.MJ,O.low,O.hears,O.nh,O.clean,O.fix,O.f0,O.ff,O.cx,O.sz,O.os,O.kn,O.pd,O.len⟩
      refine hB _ _ _ _ aU hK (by simpa using hN) (by simp[al]) λk c Y hc=>?_;obtain⟨i',J,n,U,aa⟩:=hS.own k c Y hc;refine⟨i',J,n,U,aa,?_⟩;obtain⟨zk,ag⟩:=hS.get Y;have aq:=a6 k _ ag;rw[hc,<-aa]at aq;rcases O.ways ((hK i').trans U) zk with⟨_,_,_,_,x2,_⟩|⟨_,_,_,_,_,x3,_⟩|⟨x,_⟩
      .rw[show(⟨.chan (some J.c),none,zk⟩:CommCase)=bX J.c zk from rfl,x2]at aq; cases aq
      .rw[show(⟨.chan (some J.c),none,zk⟩:CommCase)=bX J.c zk from rfl,x3]at aq; cases aq
      .exact x
    .obtain⟨gs',w',ops,ρ',hr,ai,aE,aj,aF,hz,_,_⟩:=O.other (sl:=ae) ab hi hg h0 λJ mi S n _ _ _ _ _ _=>bU (by rw[an]; simp) _ _;rw[hr];refine Z.next _ _ _ _ (ih ρ' (hN▸aE) gs' w' ae (t++ops) ai (λj=>(aj j).trans (hK j)) (aF.trans hN) (.inl ⟨a',?_,an,a5⟩));rcases hz with⟨x,_⟩|x
     .exact x
     .rw[x,cy _ (.inl an)]
   .exact hB gs w sl t h hK hN h0 hW
 intro ρ gs w sl t h hK h0 hN;exact key ρ (hN▸h.acc) gs w sl t h hK hN (.inl ⟨a,h0,hS.run,hS.step⟩)
end
end
end Go.Proofs.YtocbogeoffeolaaGreatDoor
