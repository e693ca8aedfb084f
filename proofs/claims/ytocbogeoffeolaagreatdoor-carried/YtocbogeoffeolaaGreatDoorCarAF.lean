import Derived.Test.YtocbogeoffeolaaGreatDoorCarAE
import Derived.Conc.Beside
import Derived.Conc.CrowdComm
import Derived.Test.YtocbogeoffeolaaGreatDoorChecked
set_option linter.all false
set_option maxHeartbeats 8000000
set_option maxRecDepth 1000000
open Array renaming getElem?_setIfInBounds_ne->a4,getElem?_eq_some_iff->bo,getElem?_eq_getElem->bp,replicate->bq,mem_iff_getElem->br,mem_toList_iff->bs,all_eq_true->bt,getElem?_setIfInBounds_self_of_lt->bu,getD_eq_getD_getElem?->bv,getElem?_push->bw,getElem?_map->bx,empty_append->bz,append_empty->b4,swapAt!->b5,ext->b6
open Go renaming stepG->b7,communicate->b8,yielded->b9,FuncId->bA,Trace->bB,unwind->bC,goexitEntry->bD,execOp->bE,runN->bF,ways->bG,lone->bH,step_lone_ended->bI,TypeId->bJ,partners->bK,doReturn->bL,step_lone_go->bM,commResult->bN,results->bO,seen->bP,oneG->bQ,offeredValue->bR,stepT->bS,runT->bT,HappensBefore->bU,Race->bV
open Go.Conc renaming mem_ofEvents->bW,offersAt_of_not_blocked->bX,runT_crowd_go->bY,served->bZ,rcase->ca,crowd->cb,touchAt->cd,offersAt->cf,ofEvents_eq->cg,getElem?_stand->ci,getElem?_append_old->cj,scase->ck,offersAt_ph->cm,noRace_append->cn,offersAt_parked_send->cq,mem_seen->cr,Knows->ct,lt_size_of_getElem?->cu,crowd_pick->cv,knows_own->cw,finishPartner_at->cy,runT_crowd_comm->cz,mem_of_getElem?->c7,again_running->c8,woken_quitsD->c9,partners_one->cA,partners_nil->cB,illMade->cC,crowd_waits->cD,woken->cE,awake->cF
open Option renaming bind_eq_some_iff->cG,bind_eq_bind->cH,bind_some->cI,map_eq_some_iff->cJ,map_some->cK,getD_some->cL
open Go.ConcN renaming upd_same->cM,upd_ne->cN,upd->cO
open List renaming mem_cons->cP,not_mem_nil->cQ,mem_map->cR,mem_iff_getElem?->cS,mem_toArray->cT,mem_filter->cU,getElem?_cons_zero->cV,getElem?_toArray->cW,getElem?_eq_some_iff->cX,mem_of_getElem?->cY,range->cZ
open Nat renaming lt_of_lt_of_le->da,le_refl->db,le_trans->dc,eq_zero_or_pos->de,exists_eq_add_of_le->dg
open Go.MemOp renaming ofEvents->dk
open Option.some renaming injEq->dq,inj->dt
open Classical renaming byContradiction->ee,choose->ef,choose_spec->ek
open Bool renaming and_eq_true->en,false_eq_true->et,or_eq_true->ey,not_eq_true->eC
open Go.Made renaming reckon->fa,reckonStruct->fb,infoAt->fd
open Go.Region renaming wanted->fk,schedule->fm
open Go.stepG renaming apply->fB,exec->ga
open Go.MemAct renaming ofEvent->gc,touch?->gd
open Go.Stepped.next renaming injEq->ge
open Go.GStep renaming after->gn
open Ne renaming symm->gt
open Go.Goroutine renaming callers->gv,frame->gx,status->gy,finishComm->gz,endsWith->g6,canRun->g7
open Go.Frame renaming enter->g8,catches->g9,finish->gA
open Go.Question renaming forced->gB
open Go.Trace renaming act?->hA,g?->hC
open Go.Sem renaming run->hD,bind->hM,runT->hO
open Go renaming undef->hQ
namespace Go.Proofs.YtocbogeoffeolaaGreatDoor
open Go.Proofs.Tryz
section
open Go.Conc
variable {fr':Frame} {g:Goroutine} {cs':List Frame}
structure LS where
 fr:Frame
 cs:List Frame
 w:World
def LS.m(S:LS):Machine:=bH S.fr S.cs S.w
inductive GK(P:Program):LS->LS->Prop
 |go {fr cs w fp fq w₁ es}:b7 P true (G fr cs) w=.go (G fp fq) w₁ es->GK P ⟨fr,cs,w⟩ ⟨fp,fq,w₁⟩|send {fr cs w f0 c0 r v z w₁ es cap buf gN rcvd tm}:b7 P true (G fr cs) w=.comm (G f0 c0) #[⟨.chan (some r),some v,z⟩] true .send w₁ es->w₁.heap[r]?=some (.chan cap buf false gN rcvd tm)->buf.size<cap->
   GK P ⟨fr,cs,w⟩ ⟨f0.finish (bN #[⟨.chan (some r),some v,z⟩] .send 0 hQ false),c0,{w₁ with heap:=w₁.heap.setIfInBounds r (.chan cap (buf.push v) false (gN+1) rcvd tm)}⟩
section
variable {P:Program} {m:Ren} {T:List Frame} {gl:Nat->Prop} {st:Bool}
def ll(hm:¬m.iq){fr:Frame}{cs:List Frame}(O:dU P m T (fr::cs) (fr'::cs')):¬AtClose fr:=by
 rintro⟨_,a,t,c,args,ds,e⟩;have h:=O.qE.defers;rw[e]at h;revert h;generalize fr'.defers=l;intro h
 cases h with
 |@cons _ d' _ _ U _=>
  obtain⟨W,Y⟩:=d';have ht:=U.target
  cases ht with
  |builtin _ _ _ h=>exact hm h
abbrev F9:Array Goroutine:=#[{(default:Goroutine)with status:=.finished}]
abbrev tk:Rest:={timers:=#[],alone:=none,slice:=none}
def rq{fr:Frame}{cs:List Frame}{w:World}{k:Array CommCase}{b:Bool}{sh:CommShape}{w₁:World}{es:Array Event}(h:b7 P true (G fr cs) w=.comm g k b sh w₁ es):step P (bH fr cs w)=(b8 P tk F9 0 g k b sh w₁).1:=by
 unfold G at h;rw[step,bS,move_lone];simp[bT,bH,b5,h]
def DL{fr:Frame}{cs:List Frame}{w:World}{w₁:World}{es:Array Event}(U:g.status=.running\/g.status=.blocked)(h:b7 P true (G fr cs) w=.go g w₁ es):step P (bH fr cs w)=.next (bQ g w₁):=by
 unfold G at h;rw[step,bS,move_lone];rcases U with O|O<;>simp[bT,bH,bQ,b5,h,O]
def zx:∀(n:Nat){g:Goroutine}{w:World},g.dyingOn P->∀fr cs w',bF P n (bQ g w)≠.next (bH fr cs w')
 |0,g,w,h,fr,cs,w',e=>by
  simp only[bF,ge,bQ,bH,Machine.mk.injEq]at e
  obtain⟨_,e,_⟩:=e
  obtain⟨_,d,U,_⟩:=h;have:=congrArg (λx=>x[0]?) e;simp only[cW,cV,dq]at this;rw[this]at U;cases U
 |n+1,g,w,h,fr,cs,w',e=>by
  rcases step_dyingOn (w:=w) h with⟨g',w1,O,W⟩|⟨o,w1,O,Y⟩
  simp only[bF,O]at e;exact zx n W _ _ _ e;simp only[bF,O]at e;cases e
def Bg(n:Nat){w:World}(h:g.status=.blocked)(fr:Frame)(cs:List Frame)(w':World):bF P n (bQ g w)≠.next (bH fr cs w'):=by
 intro e
 cases n with
 |zero=>
  simp only[bF,ge,bQ,bH,Machine.mk.injEq]at e;obtain⟨_,e,_⟩:=e;have:=congrArg (λx=>x[0]?) e;simp only[cW,cV,dq]at this;rw[this]at h;cases h
 |succ n=>
  obtain⟨f,c,s,O,off⟩:=g;subst h;obtain⟨U,w1,W,Y⟩:=endWith_ended w 2 ..
  have:step P (bQ {frame:=f,callers:=c,status:=.blocked,dying:=O,offers:=off} w)=.ended U w1:=by
   simp[step,bS,move,ask,askOn,bQ,runnable_eq,due,ahead,g7,List.range_succ,pure];rw[W]
  simp only[bF,this]at e;cases e
def uX{r:Nat}{v z:Value}{f0:Frame}{c0:List Frame}{w₁:World}{cap:Nat}{buf:Array Value}{gN O:Nat}{tm:Bool}(W:w₁.heap[r]?=some (.chan cap buf false gN O tm)) :
  (buf.size<cap/\(b8 P tk F9 0 (G f0 c0) #[⟨.chan (some r),some v,z⟩] true .send w₁).1=.next (bH (f0.finish (bN #[⟨.chan (some r),some v,z⟩] .send 0 hQ false)) c0 {w₁ with heap:=w₁.heap.setIfInBounds r (.chan cap (buf.push v) false (gN+1) O tm)}))\/
  (¬buf.size<cap/\((∃g w2,g.status=.blocked/\(b8 P tk F9 0 (G f0 c0) #[⟨.chan (some r),some v,z⟩] true .send w₁).1=.next (bQ g w2))\/∃o w2,(b8 P tk F9 0 (G f0 c0) #[⟨.chan (some r),some v,z⟩] true .send w₁).1=.ended o w2)):=by
 by_cases hb:buf.size<cap;simp[b8,W,ways,bK,hb,choose,hD,gB,bind,hM,pure,gz,bH,G];refine .inr ⟨hb,?_⟩
 cases U:waitingAt tk #[⟨.chan (some r),some v,z⟩] w₁ with
 |none=>exact .inr ⟨_,_,by simp[b8,W,ways,bK,hb,U];exact⟨rfl,rfl⟩⟩|some w2=>exact .inl ⟨{G f0 c0 with status:=.blocked,offers:=some (#[⟨.chan (some r),some v,z⟩],.send)},w2,rfl,by simp[b8,W,ways,bK,hb,U,bQ]⟩
def Fe{ch v z:Value}{f0:Frame}{c0:List Frame}{w₁:World}(W:∀r,ch=.chan (some r)->False) :
  ((∃g w2,g.status=.blocked/\(b8 P tk F9 0 (G f0 c0) #[⟨ch,some v,z⟩] true .send w₁).1=.next (bQ g w2))\/∃o w2,(b8 P tk F9 0 (G f0 c0) #[⟨ch,some v,z⟩] true .send w₁).1=.ended o w2):=by
 by_cases U:ch=.chan none;subst U
 cases O:waitingAt tk #[⟨.chan none,some v,z⟩] w₁ with
 |none=>exact .inr ⟨_,_,by simp[b8,ways,O];exact⟨rfl,rfl⟩⟩|some w2=>exact .inl ⟨{G f0 c0 with status:=.blocked,offers:=some (#[⟨.chan none,some v,z⟩],.send)},w2,rfl,by simp[b8,ways,O,bQ]⟩
 cases ch with
 |chan x=>
  cases x with
  |none=>exact absurd rfl U|some r=>exact(W r rfl).elim
 |_=>simp[b8]
def Open(m:Ren):Prop:=∀r r',m.ch r=some r'->∃cap buf gN O tm,m.lz r=some (.chan cap buf false gN O tm)
def CC(hX:lZ P m gl st)(hm:¬m.iq)(ho:Open m){fr:Frame}{cs:List Frame}(hS:dU P m T (fr::cs) (fr'::cs')){w w':World}(hw:WR m w w'){n:Nat}{f1:Frame}{c1:List Frame}{w1:World}
  (h:bF P (n+1) (bH fr cs w)=.next (bH f1 c1 w1)):∃S,GK P ⟨fr,cs,w⟩ S/\bF P n S.m=.next (bH f1 c1 w1):=by
 have hn:=ll hm hS;have U:=Py hX hS hn hw;generalize hs:b7 P true _ w=s at U
 cases U with
 |go g c w₁ es=>
  refine⟨⟨g,c,w₁⟩,.go hs,?_⟩;have:=bM (by unfold G at hs;rw[hs];rfl);simp only[bF,this]at h;exact h
 |ended o w₁ es=>
  have:=bI (by unfold G at hs;rw[hs];rfl);simp only[bF,this]at h;cases h
 |dies g w₁ es hd=>
  have:=DL hd.1 hs;simp only[bF,this]at h;exact absurd h (zx n hd _ _ _)
 |spawn g c d w₁ es=>
  obtain⟨ab,W,Y,_⟩:=align hw;obtain⟨_,_,_,_,_,_,_,_,_,_,_,_,ac,_⟩:=MD (main':=true) hX hS hn W Y hs;exact absurd ac hm
 |comm g c k b sh w₁ es=>
  obtain⟨ab,W,Y,_⟩:=align hw;obtain⟨f0,c0,dz,ah,ai,k',ad,aj,e0,e1,e2,e3,e4,e5,e6,e7,e8⟩:=uf (main':=true) hX hS hn W Y hs;obtain⟨rfl,rfl,ch,v,z,rfl⟩:=e2.resolve_left hm;have ae:=rq hs;simp only[bF,ae]at h
  have dead:((∃gg w2,gy gg=.blocked/\(b8 P tk F9 0 (G g c) #[⟨ch,some v,z⟩] true .send w₁).1=.next (bQ gg w2))\/∃o w2,(b8 P tk F9 0 (G g c) #[⟨ch,some v,z⟩] true .send w₁).1=.ended o w2)->False:=by
   rintro(⟨gg,w2,hg,e⟩|⟨o,w2,e⟩);rw[e]at h;exact Bg n hg _ _ _ h;rw[e]at h;cases h
  by_cases hc:∃r,ch=.chan (some r);obtain⟨r,rfl⟩:=hc
  have O:∃r',dz.ch r=some r':=by
   revert e5;generalize k'.toList=l;intro e5
   cases e5 with
   |@cons _ q _ _ hx _=>
    obtain⟨ak,al,am⟩:=q;have hv:=hx.chan
    cases hv with
    |chan hb=>exact⟨_,hb⟩
  obtain⟨r',O⟩:=O;rw[e7.mT hm]at O;obtain⟨cap,buf,gN,ag,tm,af⟩:=ho r r' O;have aa:=(e6.lz r _ (by rw[e7.lz];exact af)).1;rcases uX (P:=P) (v:=v) (z:=z) (f0:=g) (c0:=c) aa with⟨hb,e⟩|⟨hb,e⟩
  rw[e]at h;exact⟨_,.send hs aa hb,h⟩;exact(dead e).elim;exact(dead (Fe λr e=>hc ⟨r,e⟩)).elim
end
variable {S S':LS} {w w':World}
def LS.on(S:LS)(τ:Nat->Question->Nat):LS:=⟨S.fr,S.cs,tp S.w τ⟩
def Bu(τ:Nat->Question->Nat)(w:World):Prop:=∀i,i<w.drawn->τ i=w.tape i
def Fin(P:Program)(S:LS):Prop:=S.cs=[door P]/\S.fr.mode≠.run/\S.fr.defers=[]/\S.fr.roundOf=none
structure wM(P:Program)(gl:Nat->Prop)(st:Bool)(m:Ren)(T:List Frame)(S:LS)(fr':Frame)(cs':List Frame)(w':World):Prop where
 qf:lZ P m gl st
 iq:¬m.iq
 op:Open m
 stack:dU P m T (S.fr::S.cs) (fr'::cs')
 world:WR m S.w w'
def Hf{f f':Frame}{c O:List Frame}(h:bH f c w=bH f' O w'):f=f'/\c=O/\w=w':=by
 simp only[bH,Machine.mk.injEq]at h;obtain⟨U,W,_⟩:=h;have:=congrArg (λx=>x[0]?) W;simp only[cW,cV,dq,Goroutine.mk.injEq]at this;exact⟨this.1,this.2.1,U⟩
def LS.La(h:S.m=S'.m):S=S':=by
 obtain⟨f,c,w⟩:=S;obtain⟨rfl,rfl,rfl⟩:=Hf h;rfl
section
variable {P:Program} {m:Ren} {T:List Frame} {gl:Nat->Prop} {st:Bool}
def GK.next(h:GK P S S'):step P S.m=.next S'.m:=by
 cases h with
 |go h=>exact bM (by unfold G at h;rw[h];rfl)|send h O hb=>
  have:=rq h;rcases uX (P:=P) (v:=_) (z:=_) (f0:=_) (c0:=_) O with⟨_,e⟩|⟨U,_⟩
  exact this.trans e;exact absurd hb U
def GK.loc(O:wM P gl st m T S fr' cs' w')(h:GK P S S'):S.w.drawn<=S'.w.drawn/\S'.w.tape=S.w.tape/\∀τ,vN τ S.w S'.w->GK P (S.on τ) (S'.on τ):=by
 cases h with
 |go h=>
  obtain⟨W,Y,h3⟩:=Sx O.qf O.stack (ll O.iq O.stack) O.world h;exact⟨W,Y,λτ U=>by obtain⟨es,e⟩:=h3 τ U;exact .go e⟩
 |send h hc hb=>
  obtain⟨W,Y,h3⟩:=OK O.qf O.stack (ll O.iq O.stack) O.world h;exact⟨W,Y,λτ U=>by obtain⟨es,e⟩:=h3 τ U;exact .send e hc hb⟩
def Ren.put(m:Ren)(r:Nat)(o:Obj):Ren:={m with lz:=λx=>if x=r then some o else m.lz x}
def Ren.oS(m:Ren)(r:Nat)(o:Obj):m.Le (m.put r o):=⟨λ_ _ h=>h,λ_ _ h=>h,λ_ _ _=>Iff.rfl,λ_ h=>h,rfl,rfl,rfl,rfl,rfl,rfl,rfl⟩
def WR.put(h:WR m w w'){r:Nat}{o:Obj}(ho:∃c b x s y t,o=.chan c b x s y t)(W:∃c b x s y t,w.heap[r]?=some (.chan c b x s y t)):WR (m.put r o) {w with heap:=w.heap.setIfInBounds r o} w':=by
 obtain⟨c0,b0,x0,s0,y0,t0,W⟩:=W;have aa:=jY W
 have ne:∀s s',m.blk s=some s'->r≠s:=by
  rintro s s' hb rfl;obtain⟨x,x',O,_,h3⟩:=h.obj _ _ hb;rw[W]at O;cases O;cases h3
 have get:∀s,r≠s->(w.heap.setIfInBounds r o)[s]?=w.heap[s]?:=λs U=>a4 U;refine⟨λs s' hb=>?_,λs s' c e f c' e' f' hb O Y hn=>?_,λs s' c e f c' e' f' hb O Y hl=>?_,λs s' hb=>by simpa using h.NQ s s' hb,(show m.G<=(w.heap.setIfInBounds r o).size by simpa using h.NM),h.Ld,h.os,λs x U=>?_,λs s' hb hl=>?_,λs U=>?_,λs i v hv=>?_⟩;obtain⟨x,x',O,Y,h3⟩:=h.obj s s' hb;exact⟨x,x',by rw[get s (ne s s' hb)];exact O,Y,h3.mono (Ren.oS m r o)⟩;exact h.fz s s' _ _ _ _ _ _ hb (by rw[<-get s (ne s s' hb)];exact O) Y hn;exact h.all s s' _ _ _ _ _ _ hb (by rw[<-get s (ne s s' hb)];exact O) Y hl;by_cases e:s=r;subst e;simp only[Ren.put,if_true,dq]at U;subst U;exact⟨by simp[aa],ho⟩;simp only[Ren.put,e,if_false]at U;obtain⟨g1,g2⟩:=h.lz s x U;exact⟨by rw[get s (gt e)];exact g1,g2⟩;obtain⟨c,e,f,hx⟩:=h.lk s s' hb hl;exact⟨c,e,f,by rw[get s (ne s s' hb)];exact hx⟩;obtain⟨O,c,e,f,hx⟩:=h.dead s U;refine⟨O,c,e,f,?_⟩;rw[get s];exact hx;rintro rfl;rw[W]at hx;cases hx;obtain⟨s',hb,hp⟩:=h.sW s i v hv;exact⟨s',hb,λc e f c' e' f' x g1=>hp c e f c' e' f' x (by rw[<-get s (ne s s' hb)];exact g1)⟩
def wM.own(O:wM P gl st m T S fr' cs' w')(hf:¬Fin P S)(h:GK P S S'):∃dz aa ab w₁,wM P gl st dz T S' aa ab w₁:=by
 obtain⟨ag,ac,ad,_⟩:=align O.world;have hn:=ll O.iq O.stack
 cases h with
 |go h=>
  obtain⟨dz,f,c,ou,es,_,h1,h2,h3,h4,_⟩:=yW (main':=true) O.qf O.stack hn (λa b c d=>hf ⟨a,b,c,d⟩) ac ad h;exact⟨dz,f,c,ou,O.qf.mono h1,by rw[h1.iq];exact O.iq,λr r' hr=>by rw[h4.mT O.iq]at hr;rw[h4.lz];exact O.op r r' hr,h2,h3⟩
 |@send _ _ _ f0 c0 r v z w₁ es cap buf gN Y tm h hc hb=>
  obtain⟨f1,c1,dz,ae,af,k',ou,ah,e0,_,_,h1,h2,h3,h4,h5,_⟩:=uf (main':=true) O.qf O.stack hn ac ad h
  obtain⟨rfl,rfl⟩:f0=f1/\c0=c1:=by
   have:=congrArg gx e0;have h':=congrArg gv e0;exact⟨this,h'⟩
  have U:=(h2.qE).finish (VR.undef dz);refine⟨dz.put r (.chan cap (buf.push v) false (gN+1) Y tm),ae.finish hQ,af,ou,(O.qf.mono h1).mono (Ren.oS ..),?_,?_,?_,?_⟩;show ¬dz.iq;rw[h1.iq];exact O.iq;intro s s' W;by_cases e:s=r;exact⟨cap,buf.push v,gN+1,Y,tm,by simp[Ren.put,e]⟩;have W:dz.ch s=some s':=W;rw[h5.mT O.iq]at W;obtain⟨a,b,c,d,e',hx⟩:=O.op s s' W;exact⟨a,b,c,d,e',by simp only[Ren.put,e,if_false];rw[h5.lz];exact hx⟩;exact(h2.set (.refl dz) U.1 U.2.1 U.2.2 (ft ..) (gX ..)).mono (Ren.oS ..);exact h4.put ⟨_,_,_,_,_,_,rfl⟩ ⟨_,_,_,_,_,_,hc⟩
def LC:Extern.next "fmt's door" = none:=by rfl
def Mx(v:Value)(w:World):∃o w',step P (bH ((door P).finish v) [] w)=.ended o w':=by
 have:b7 P true {frame:=(door P).finish v,callers:=[],status:=.running,dying:=none} w=.ended (.stuck ("no extern row " ++ "fmt's door") (Frame.pos P ((door P).finish v))) w:=by
  have e:=LC;simp only[door,gA,b7,ga,e,Option.elim]
 exact⟨_,_,bI rfl⟩
def Hj(c:List PanicEntry)(w:World):∃o w',step P (bH ((door P).raise c) [] w)=.ended o w':=by
 have O:g9 P ((door P).raise c)=true:=by
  simp[door,Frame.raise,g9]
 have:∃o,b7 P true {frame:=(door P).raise c,callers:=[],status:=.running,dying:=none} w=.ended o w:=by
  have hm:((door P).raise c).mode=.panicking c:=rfl;have U:((door P).raise c).defers=[]:=rfl
  exact⟨_,by
   unfold b7;unfold bC;simp only[hm,U,O,if_true]
   rfl⟩
 obtain⟨o,this⟩:=this;exact⟨_,_,bI (by rw[this];rfl)⟩
def Cj(hS:dU P m T (S.fr::S.cs) (fr'::cs'))(hf:Fin P S)(n:Nat){O:LS}(hc:O.cs≠[]):bF P (n+1) S.m≠.next O.m:=by
 obtain⟨fr,cs,w⟩:=S;obtain⟨h1,h2,Y,h4⟩:=hf;simp only at h1 h2 Y h4 hc hS;subst h1
 have hk:=by cases hS with|one _ h _ _=>exact h
                                    |cons _ _ _ h=>cases h
 intro e
 have fin:(∃v w2,step P (bH fr [door P] w)=.next (bH ((door P).finish v) [] w2))\/(∃v w2,step P (bH fr [door P] w)=.next (bH ((door P).raise v) [] w2))\/∃o w2,step P (bH fr [door P] w)=.ended o w2:=by
  cases hm:fr.mode with
  |run=>exact absurd hm h2|panicking ch=>
   by_cases aa:fr.catches P=true;refine .inr (.inr ?_)
   have:∃o,b7 P true {frame:=fr,callers:=[door P],status:=.running,dying:=none} w=.ended o w:=by
    exact⟨_,by
     unfold b7;unfold bC;simp only[hm,Y,aa,if_true]
     rfl⟩
   obtain⟨o,this⟩:=this;exact⟨_,_,bI (by rw[this];rfl)⟩;refine .inr (.inl ⟨ch,w,bM ?_⟩);unfold b7;unfold bC;simp[hm,Y,aa]
  |returning=>
   cases hp:P.funcs[fr.fn]? with
   |none=>
    refine .inl ⟨fr.tmps.getD 0 hQ,w,bM ?_⟩;simp[b7,bC,bL,hm,Y,hk,hp]
   |some fn=>
    cases hr:(bO fn fr.tmps).run P w with
    |ok v w2=>
     refine .inl ⟨v,w2,bM ?_⟩;simp[b7,bC,bL,hm,Y,hk,hp,hr]
    |halt x w2=>
     refine .inr (.inr ?_)
     have:∃o,(b7 P true {frame:=fr,callers:=[door P],status:=.running,dying:=none} w).bare=.ended o w2:=by
      cases x<;>exact⟨_,by simp[b7,bC,bL,hm,Y,hk,hp,hr];rfl⟩
     obtain⟨o,this⟩:=this;exact⟨_,_,bI this⟩
 have two:∀(f:Frame)(w2:World),(∃o w',step P (bH f [] w2)=.ended o w')->step P (bH fr [door P] w)=.next (bH f [] w2)->False:=by
  rintro f w2 ⟨o,w3,hh⟩ W;have U:bF P _ (bH fr _ w)=.next _:=e;simp only[bF,W]at U
  cases n with
  |zero=>
   simp only[bF,ge]at U;exact hc (Hf U).2.1.symm
  |succ n=>
   simp only[bF,hh]at U;cases U
 rcases fin with⟨v,w2,W⟩|⟨v,w2,W⟩|⟨o,w2,W⟩
 exact two _ _ (Mx v w2) W;exact two _ _ (Hj v w2) W;have U:bF P _ (bH fr _ w)=.next _:=e;simp only[bF,W]at U;cases U
end
def mc(P:Program)(Stop:LS->Prop)(S:LS):Prop:=∀τ,Bu τ S.w->∃n O,bF P n (S.on τ).m=.next (LS.m O)/\Stop O/\O.cs≠[]
def zW(Stop:LS->Prop):Prop:=∀S τ,Stop (S.on τ)->Stop S
def nD(P:Program)(Stop:LS->Prop)(S' S:LS):Prop:=¬Stop S/\∃τ,Bu τ S.w/\GK P (S.on τ) S'
def vv(P:Program)(S:LS):Prop:=∃gl st m T fr' cs' w',wM P gl st m T S fr' cs' w'
def WR.tp{m:Ren}{w:World}(h:WR m w w')(τ:Nat->Question->Nat):WR m (tp w τ) w':=⟨h.obj,h.fz,h.all,h.NQ,h.NM,h.Ld,h.os,h.lz,h.lk,h.dead,h.sW⟩
section
variable {P:Program} {m:Ren} {T:List Frame} {gl:Nat->Prop} {st:Bool} {Stop:LS->Prop}
def wM.on{S:LS}{fr':Frame}{cs':List Frame}(h:wM P gl st m T S fr' cs' w')(τ:Nat->Question->Nat):wM P gl st m T (S.on τ) fr' cs' w':=⟨h.qf,h.iq,h.op,h.stack,h.world.tp τ⟩
def Jj(w:World):Bu w.tape w:=λ_ _=>rfl
def Vg(S:LS)(τ O:Nat->Question->Nat):(S.on τ).on O=S.on O:=rfl
def mc.step(hB:zW Stop){S:LS}(O:vv P S)(hH:mc P Stop S)(hn:¬Stop S)(τ:Nat->Question->Nat)(W:Bu τ S.w):¬Fin P S/\∃S',GK P (S.on τ) S':=by
 obtain⟨gl,st,m,T,fr',cs',w',O⟩:=O;obtain⟨n,Y,U,h2,h3⟩:=hH τ W
 cases n with
 |zero=>
  simp only[bF,ge]at U;obtain rfl:=LS.La U;exact absurd (hB _ _ h2) hn
 |succ n=>
  refine⟨λhf=>Cj (m:=m) (T:=T) (S:=S.on τ) (O.on τ).stack ⟨hf.1,hf.2⟩ n h3 U,?_⟩;obtain⟨S',g,_⟩:=CC (O.on τ).qf O.iq O.op (O.on τ).stack (O.on τ).world U;exact⟨S',g⟩
def vv.own{S:LS}(O:vv P S)(U:¬Fin P S)(h:GK P S S'):vv P S':=by
 obtain⟨gl,st,m,T,fr',cs',w',O⟩:=O;obtain⟨dz,f,c,w,h⟩:=O.own U h;exact⟨gl,st,dz,T,f,c,w,h⟩
def vv.on{S:LS}(O:vv P S)(τ:Nat->Question->Nat):vv P (S.on τ):=by
 obtain⟨gl,st,m,T,fr',cs',w',O⟩:=O;exact⟨gl,st,m,T,fr',cs',w',O.on τ⟩
def zr{S:LS}(O:vv P S)(h:GK P S S'):S.w.drawn<=S'.w.drawn/\S'.w.tape=S.w.tape/\∀τ,vN τ S.w S'.w->GK P (S.on τ) (S'.on τ):=by
 obtain⟨gl,st,m,T,fr',cs',w',O⟩:=O;exact h.loc O
def mc.own(hB:zW Stop){S:LS}(hs:vv P S)(hH:mc P Stop S)(h:nD P Stop S' S):vv P S'/\mc P Stop S':=by
 obtain⟨hn,τ,W,ho⟩:=h;have hf:=(hH.step hB hs hn τ W).1;refine⟨(hs.on τ).own (λx=>hf ⟨x.1,x.2⟩) ho,λU O=>?_⟩;obtain⟨h1,h2,h3⟩:=zr (hs.on τ) ho;have h1:S.w.drawn<=S'.w.drawn:=h1;have h2:S'.w.tape=τ:=h2
 have Y:=h3 U λi _ b=>by
  rw[O i b,h2];rfl
 rw[Vg]at Y
 have hb:Bu U _:=λi hi=>by
  rw[O i (da hi h1),h2];exact W i hi
 obtain⟨n,aa,g1,g2,g3⟩:=hH U hb
 cases n with
 |zero=>
  simp only[bF,ge]at g1;obtain rfl:=LS.La g1;exact absurd (hB _ _ g2) hn
 |succ n=>
  simp only[bF,Y.next]at g1;exact⟨n,aa,g1,g2,g3⟩
def QY{O:Type}{r:O->O->Prop}{x:O}(h:¬Acc r x):∃y,r y x/\¬Acc r y:=by
 by_cases U:∃y,r y x/\¬Acc r y;exact U;exact absurd (Acc.intro x λy W=>ee λY=>U ⟨y,W,Y⟩) h
open Classical in
def mc.acc(hB:zW Stop){S:LS}(hs:vv P S)(hH:mc P Stop S):Acc (nD P Stop) S:=by
 apply ee;intro aa;let X:={S:LS // vv P S/\mc P Stop S/\¬Acc (nD P Stop) S}
 have nx:∀x:X,∃y:X,nD P Stop y.1 x.1:=by
  rintro⟨x,h1,W,h3⟩;obtain⟨y,hr,hy⟩:=QY h3;have:=W.own hB h1 hr;exact⟨⟨y,this.1,this.2,hy⟩,hr⟩
 let f:=λx=>ef (nx x);have hf:=λx=>ek (nx x);let s:Nat->X:=λn=>Nat.rec ⟨S,hs,hH,aa⟩ (λ_ x=>f x) n;have O:∀n,nD P Stop (s (n+1)).1 _:=λn=>hf _
 have one:∀n,(s n).1.w.drawn<=(s (n+1)).1.w.drawn/\(∀i,i<(s n).1.w.drawn->(s (n+1)).1.w.tape i=(s n).1.w.tape i):=by
  intro n;obtain⟨_,τ,U,ho⟩:=O n;obtain⟨h1,W,_⟩:=zr ((s n).2.1.on τ) ho;exact⟨h1,λi hi=>by rw[W];exact U i hi⟩
 have mono:∀k n,(s n).1.w.drawn<=(s (n+k)).1.w.drawn/\(∀i,i<(s n).1.w.drawn->(s (n+k)).1.w.tape i=(s n).1.w.tape i):=by
  intro k;induction k with
  |zero=>exact λn=>⟨db _,λ_ _=>rfl⟩
  |succ k ih=>
   intro n;have a:=ih n;have b:=one (n+k);refine⟨dc a.1 b.1,λi hi=>?_⟩;have:=b.2 i (da hi a.1);exact this.trans (a.2 i hi)
 let τ:=λi=>if h:∃n,i<(s n).1.w.drawn then(s (ef h)).1.w.tape i else λ_=>0
 have U:∀n i,i<(s n).1.w.drawn->τ i=(s n).1.w.tape i:=by
  intro n i hi;have hx:∃n,i<(s n).1.w.drawn:=⟨n,hi⟩;have e:τ i=(s _).1.w.tape i:=dif_pos hx;have hk:=ek hx;rw[e];generalize ef hx=k at hk;rcases Nat.le_total k n with h|h
  obtain⟨d,rfl⟩:=dg h;exact((mono d k).2 i hk).symm;obtain⟨d,rfl⟩:=dg h;exact(mono d n).2 i hi
 have go:∀n,GK P ((s n).1.on τ) ((s (n+1)).1.on τ):=by
  intro n;obtain⟨_,Y,hb,ho⟩:=O n;obtain⟨h1,W,h3⟩:=zr ((s n).2.1.on Y) ho;have W:(s (n+1)).1.w.tape=Y:=W
  exact h3 τ λi _ hi=>by
   rw[U (n+1) i hi,W];rfl
 have run:∀n k,bF P n ((s k).1.on τ).m=.next ((s (k+n)).1.on τ).m:=by
  intro n;induction n with
  |zero=>exact λk=>rfl|succ n ih=>
   intro k;simp only[bF,(go k).next];rw[ih (k+1),Nat.add_right_comm];rfl
 obtain⟨n,ab,g1,g2,_⟩:=hH τ λi hi=>U 0 i hi;have:=run n 0;rw[Nat.zero_add]at this;have e:=this.symm.trans g1;simp only[ge]at e;obtain rfl:=LS.La e;exact(O n).1 (hB _ _ g2)
end
end
section
open Go.Conc
variable {fr':Frame} {S:LS} {cs':List Frame} {w' ou:World}
section
variable {P:Program} {m:Ren} {T:List Frame} {gl:Nat->Prop} {st:Bool} {Stop:LS->Prop}
def WR.rely{w:World}(h:WR m w w')(W:∀r r',m.blk r=some r'->ou.heap[r']?=w'.heap[r']?)(hs:w'.heap.size<=ou.heap.size)(ho:ou.os=w'.os):WR m w ou:=by
 refine⟨λr r' hb=>?_,λr r' c e f Y e' f' hb O U hn=>?_,λr r' c e f Y e' f' hb O U hl=>?_,λr r' hb=>?_,h.NM,dc h.Ld hs,ho.trans h.os,h.lz,h.lk,h.dead,λr i v hv=>?_⟩;obtain⟨o,o',O,U,h3⟩:=h.obj r r' hb;exact⟨o,o',O,by rw[W r r' hb];exact U,h3⟩;exact h.fz r r' _ _ _ _ _ _ hb O (by rw[<-W r r' hb];exact U) hn;exact h.all r r' _ _ _ _ _ _ hb O (by rw[<-W r r' hb];exact U) hl;have:=h.NQ r r' hb;exact⟨this.1,da this.2 hs⟩;obtain⟨r',hb,hp⟩:=h.sW r i v hv;exact⟨r',hb,λc e f Y e' f' x g1 g2=>hp c e f Y e' f' x g1 (by rw[<-W r r' hb];exact g2)⟩
def wM.rely(h:wM P gl st m T S fr' cs' w')(O:∀r r',m.blk r=some r'->ou.heap[r']?=w'.heap[r']?)(U:w'.heap.size<=ou.heap.size)(W:ou.os=w'.os):wM P gl st m T S fr' cs' ou:=⟨h.qf,h.iq,h.op,h.stack,h.world.rely O U W⟩
structure qK(P:Program)(gl:Nat->Prop)(st:Bool)(m:Ren)(T:List Frame)(S:LS)(r r':Nat)(v v':Value)(fr':Frame)(cs':List Frame)(w':World):Prop where
 qf:lZ P m gl st
 iq:¬m.iq
 op:Open m
 ch:m.ch r=some r'
 val:VR m v v'
 sU:∃f0 wl cap buf gN rcvd tm,S=⟨f0.finish hQ,S.cs,{wl with heap:=wl.heap.setIfInBounds r (.chan cap (buf.push v) false (gN+1) rcvd tm)}⟩/\dU P m T (f0::S.cs) (fr'::cs')/\WR m wl w'/\wl.heap[r]?=some (.chan cap buf false gN rcvd tm)/\buf.size<cap
def qK.rely{r r':Nat}{v U:Value}(h:qK P gl st m T S r r' v U fr' cs' w')(W:∀r r',m.blk r=some r'->ou.heap[r']?=w'.heap[r']?)(Y:w'.heap.size<=ou.heap.size)(ho:ou.os=w'.os):qK P gl st m T S r r' v U fr' cs' ou:=by
 obtain⟨f0,wl,cap,buf,gN,O,tm,h1,h2,h3,h4⟩:=h.sU;exact⟨h.qf,h.iq,h.op,h.ch,h.val,f0,wl,cap,buf,gN,O,tm,h1,h2,h3.rely W Y ho,h4⟩
def qK.done{r r':Nat}{v v':Value}(h:qK P gl st m T S r r' v v' fr' cs' w'):∃o,wM P gl st (m.put r o) T S (fr'.finish hQ) cs' w':=by
 obtain⟨f0,wl,cap,buf,gN,U,tm,Y,h2,h3,h4,_⟩:=h.sU;have O:=h2.qE.finish (VR.undef m);refine⟨.chan cap (buf.push v) false (gN+1) U tm,h.qf.mono (Ren.oS ..),h.iq,λs s' W=>?_,?_,?_⟩;by_cases e:s=r;exact⟨cap,buf.push v,gN+1,U,tm,by simp[Ren.put,e]⟩;obtain⟨a,b,c,d,e',hx⟩:=h.op s s' W;exact⟨a,b,c,d,e',by simp only[Ren.put,e,if_false];exact hx⟩;rw[Y];exact(h2.set (.refl m) O.1 O.2.1 O.2.2 (ft ..) (gX ..)).mono (Ren.oS ..);rw[Y];exact h3.put ⟨_,_,_,_,_,_,rfl⟩ ⟨_,_,_,_,_,_,h4⟩
inductive Does(P:Program)(gl:Nat->Prop)(st:Bool)(Stop:LS->Prop)(m:Ren)(T:List Frame)(S:LS)(w':World):GStep->Prop
 |go {S' dz fp fq w₁ es}:nD P Stop S' S->m.Le dz->wM P gl st dz T S' fp fq w₁->fI m dz w' w₁->(∀e∈es,py dz e)->Does P gl st Stop m T S w' (.go (G fp fq) w₁ es)|send {S' dz fp fq w₁ es r r' v v' z'}:nD P Stop S' S->m.Le dz->qK P gl st dz T S' r r' v v' fp fq w₁->fI m dz w' w₁->(∀e∈es,py dz e)->Does P gl st Stop m T S w' (.comm (G fp fq) #[⟨.chan (some r'),some v',z'⟩] true .send w₁ es)
def along(w w':World):Nat->Question->Nat:=λi=>if i<w.drawn then w.tape i else w'.tape (w'.drawn+(i-w.drawn))
def Il(w w':World):Bu (along w w') w:=λi hi=>by simp[along,hi]
def pA(w w':World):Al (tp w (along w w')) w':=λi q=>by
 show w'.tape _ q=along w w' (w.drawn+i) q;have:¬w.drawn+i<w.drawn:=by omega
 simp[along,this]
def wM.U6(hB:zW Stop)(U:wM P gl st m T S fr' cs' w')(hH:mc P Stop S)(hn:¬Stop S)(main':Bool):Does P gl st Stop m T S w' (b7 P main' (G fr' cs') w'):=by
 have hb:=Il S.w w';have ae:=pA S.w w';obtain⟨hf,S',ho⟩:=hH.step hB ⟨_,_,_,_,_,_,_,U⟩ hn _ hb;have hg:nD P Stop S' S:=⟨hn,_,hb,ho⟩;have O:=U.on (along S.w w');have Y:=ll O.iq O.stack;generalize ab:S.on _=S0 at ho O Y;have W:Al S0.w w':=by rw[<-ab];exact ae
 have af:¬Fin P S0:=by rw[<-ab];exact λx=>hf ⟨x.1,x.2⟩
 cases ho with
 |go h=>
  obtain⟨dz,f,c,ou,es,e,h1,h2,h3,h4,h5⟩:=yW (main':=main') O.qf O.stack Y (λa b c d=>af ⟨a,b,c,d⟩) O.world W h;rw[e];exact .go hg h1 ⟨U.qf.mono h1,by rw[h1.iq];exact U.iq,λr r' hr=>by rw[h4.mT U.iq]at hr;rw[h4.lz];exact U.op r r' hr,h2,h3⟩ h4 h5
 |@send _ _ _ f0 c0 r v z w₁ es cap buf gN ac tm h hc ag=>
  obtain⟨f1,c1,dz,al,am,k',ou,an,e0,e,_,h1,h2,h3,h4,h5,h6⟩:=uf (main':=main') O.qf O.stack Y O.world W h;obtain⟨rfl,rfl⟩:f0=f1/\c0=c1:=⟨congrArg gx e0,congrArg gv e0⟩;obtain⟨kl⟩:=k'
  cases h3 with
  |@cons _ q _ _ hx aa=>
   cases aa;obtain⟨ao,ap,aq⟩:=q;have ah:=hx.chan;have ai:=hx.send
   cases ah with
   |@chan _ r' aj=>
   cases ai with
   |@some _ v' hv=>
   rw[e];have ak:Open dz:=λs s' ad=>by rw[h5.mT U.iq]at ad;rw[h5.lz];exact U.op s s' ad
   exact .send hg h1 ⟨U.qf.mono h1,by rw[h1.iq];exact U.iq,ak,aj,hv,f0,w₁,cap,buf,gN,ac,tm,rfl,h2,h4,hc,ag⟩ h5 h6
end
variable {es:Array Event} {fn:bA} {m':Ren} {pos:String}
def lR:Go.Loc->Option Nat
 |.cell a=>some a.block|.obj r=>some r|_=>none
def nO(t:bB)(g:Nat)(m:Ren):Prop:=∀p a b r,cd t p=some a->lR a.loc=some b->m.blk r=some b->(m.loose r->a.write=true)->ct t g p
def OA(t:bB)(B:Nat):Prop:=∀p a b,cd t p=some a->lR a.loc=some b->b<B
def ol(m m':Ren):Prop:=∀r r' b,m.blk r=some b->m'.blk r'=some b->m.loose r/\m'.loose r'
def ol.symm{m:Ren}(h:ol m m'):ol m' m:=λr r' b x y=>⟨(h r' r b y x).2,(h r' r b y x).1⟩
section
variable {t u:bB} {g:Nat} {m dz:Ren} {B:Nat}
def mF{e:Event}(h:py m e){x:Touch}(O:(gc e).touch?=some x)(hm:x.loc.isMemory=true):∃b r,lR x.loc=some b/\m.blk r=some b/\(m.loose r->x.write=false):=by
 obtain⟨loc,wr,Y⟩:=e
 cases loc with
 |cell a=>
  obtain⟨W,a0,ha,hw⟩:=h;simp only[gc,gd,dq]at O;subst O;refine⟨a.block,a0.block,rfl,ha.blk,λU=>?_⟩
  cases wr with
  |false=>rfl|true=>exact absurd U (hw rfl)
 |obj r=>
  obtain⟨W,r0,hb,U⟩:=h;subst W;cases wr <;>(simp only[gc,gd,dq]at O;subst O;exact⟨r,r0,rfl,hb,λx=>absurd x U⟩)
 |mark k=>
  have hk:=h;cases k<;>first|exact hk.elim|(simp[gc,gd]at O)
 |output=>
  cases wr<;>cases Y <;>(simp only[gc,gd,dq]at O;subst O;simp[Go.Loc.isMemory]at hm)
 |goroutines=>exact h.elim
def nO.grow(h:nO t g m)(U:m.Le dz)(W:OA t B)(Y:∀r b,dz.blk r=some b->m.blk r=some b\/B<=b):nO t g dz:=by
 intro p a b r O hb hr hw;rcases Y r b hr with x|x
 exact h p a b r O hb x λy=>hw ((U.loose r b x).2 y);have:=W p a b O hb;omega
def eh{p:Nat}{a:Touch}(h:cd (t++u) p=some a):(p<t.size/\cd t p=some a)\/∃op,op∈u/\(t++u)[p]?=some op/\op.act.touch?=some a:=by
 obtain⟨op,O,W⟩:=touch_of h;rcases getElem?_append_cases O with⟨Y,U⟩|⟨_,U⟩
 exact .inl ⟨Y,by rw[touchAt_of U];exact W⟩;exact .inr ⟨op,U,O,W⟩
def nO.own(h:nO t g m):nO (t++dk g fn pos es) g m:=by
 intro p a b r U hb W Y;rcases eh U with⟨_,O⟩|⟨op,O,h2,_⟩
 exact(h p a b r O hb W Y).app _;have:=cw h2;obtain⟨e,_,rfl⟩:=bW O;exact this
def nO.other(h:nO t g m)(hd:ol m m'){j:Nat}(he:∀e∈es,py m' e):nO (t++dk j fn pos es) g m:=by
 intro p a b r ha hb W Y;rcases eh ha with⟨_,O⟩|⟨op,O,_,h3⟩
 exact(h p a b r O hb W Y).app _;obtain⟨e,U,rfl⟩:=bW O
 have hm:a.loc.isMemory=true:=by
  cases hl:a.loc<;>rw[hl]at hb<;>simp[lR]at hb<;>rfl
 obtain⟨b',r',g1,g2,g3⟩:=mF (he e U) h3 hm;rw[hb]at g1;cases g1;obtain⟨l1,l2⟩:=hd r r' b W g2;rw[Y l1]at g3;exact absurd (g3 l2) (by simp)
def nO.clean(h:nO t g m)(hc:∀said,¬bV said t)(he:∀e∈es,py m e):∀said,¬bV said (t++dk g fn pos es):=by
 intro said;refine cn (hc said) (λop O=>by obtain⟨e,_,rfl⟩:=bW O;rfl) λi a ha op O b hb U=>?_;obtain⟨e,W,rfl⟩:=bW O;obtain⟨Y,h2,h3,_⟩:=U;obtain⟨b',r,g1,g2,g3⟩:=mF (he e W) hb (Y▸h2);refine h i a b' r ha (by rw[Y];exact g1) g2 λhl=>?_;rcases h3 with x|x
 exact x;rw[g3 hl]at x;cases x
def OA.own(h:OA t B){w:World}{wl:World}(W:WR m wl w)(Y:B<=w.heap.size)(he:∀e∈es,py m e):OA (t++dk g fn pos es) w.heap.size:=by
 intro p a b ha hb;rcases eh ha with⟨_,O⟩|⟨op,O,_,h3⟩
 exact da (h p a b O hb) Y;obtain⟨e,U,rfl⟩:=bW O
 have hm:a.loc.isMemory=true:=by
  cases hl:a.loc<;>rw[hl]at hb<;>simp[lR]at hb<;>rfl
 obtain⟨b',r',g1,g2,g3⟩:=mF (he e U) h3 hm;rw[hb]at g1;cases g1;exact(W.lt g2).2
end
def JS{O:Type}(r:O->O->Prop)(n:Nat)(U q:Nat->O):Prop:=∃i,i<n/\r (U i) (q i)/\∀j,j≠i->U j=q j
def OP{α:Type}{r:α->α->Prop}:∀(n:Nat)(q:Nat->α),(∀i,i<n->Acc r (q i))->Acc (JS r n) q:=by
 intro n;induction n with
 |zero=>exact λq _=>.intro q λq' ⟨i,hi,_⟩=>absurd hi (Nat.not_lt_zero i)|succ n ih=>
  have key:∀x,Acc r x->∀q,q n=x->(∀i,i<n->Acc r (q i))->Acc (JS r (n+1)) q:=by
   intro x hx;induction hx with
   |intro x _ aa=>
    intro q W fG;have U:=ih q fG;revert W fG;induction U with
    |intro q _ ab=>
     intro W fG;refine .intro q λq' ⟨i,hi,hr,Y⟩=>?_;by_cases e:i=n;subst e;exact aa _ (W▸hr) q' rfl λj O=>by rw[Y j (Nat.ne_of_lt O)];exact fG j O
     have U:i<n:=by omega
     refine ab q' ⟨i,U,hr,Y⟩ (by rw[Y n (gt e)];exact W) λj O=>?_;by_cases ej:j=i;subst ej;exact(fG j O).inv hr;rw[Y j ej];exact fG j O
  exact λq h=>key _ (h n (Nat.lt_succ_self n)) q rfl λi hi=>h i (Nat.lt_succ_of_lt hi)
section
variable {m dz m':Ren} {w w₁ wl wl':World} {B:Nat}
def ol.grow(h:ol m m')(U:m.Le dz)(W:fI m dz w w₁)(Y:WR m' wl' w):ol dz m':=by
 intro r r' b h1 O;rcases W.news r b h1 with x|x
 obtain⟨a,b⟩:=h r r' _ x O;exact⟨(U.loose r _ x).2 a,b⟩;have:=(Y.lt O).2;omega
def fI.leaves(U:fI m dz w w₁)(Y:ol m m')(hw:WR m' wl' w):∀r r',m'.blk r=some r'->w₁.heap[r']?=w.heap[r']?:=by
 intro r r' hb;by_cases W:∃s,m.blk s=some r';obtain⟨s,O⟩:=W;exact U.still s r' O (Y s r r' O hb).1;exact U.old r' (hw.lt hb).2 λs O=>W ⟨s,O⟩
def kZ(W:WR m wl w){c:Nat}{o:Obj}(O:∃a b x s y t,w.heap[c]?=some (.chan a b x s y t)):∀r r',m.blk r=some r'->(w.heap.setIfInBounds c o)[r']?=w.heap[r']?:=by
 intro r r' hb;refine a4 ?_;rintro rfl;obtain⟨x,x',_,U,Y⟩:=W.obj r _ hb;obtain⟨a,b,y,s,z,t,O⟩:=O;rw[O]at U;cases U;cases Y
def fI.chan(W:fI m dz w w₁)(Y:WR m wl w){c:Nat}{a:Nat}{b:Array Value}{x:Bool}{s y:Nat}{t:Bool}(O:w.heap[c]?=some (.chan a b x s y t)):w₁.heap[c]?=some (.chan a b x s y t):=by
 rw[W.old c (jY O) λr hr=>?_];exact O;obtain⟨o,o',_,U,h3⟩:=Y.obj r _ hr;rw[O]at U;cases U;cases h3
end
variable {r:Nat}
section
variable {P:Program} {m:Ren} {T:List Frame} {gl:Nat->Prop} {st:Bool} {Stop:LS->Prop}
def Holds(S:LS)(r:Nat)(l:List Value):Prop:=∃cap buf gN O tm,S.w.heap[r]?=some (.chan cap buf false gN O tm)/\buf.toList=l
def Holds.one{S:LS}{l O:List Value}(h:Holds S r l)(W:Holds S r O):l=O:=by
 obtain⟨_,_,_,_,_,Y,rfl⟩:=h;obtain⟨_,_,_,_,_,U,rfl⟩:=W;rw[Y]at U;cases U;rfl
def wM.Vk{S S':LS}(O:wM P gl st m T S fr' cs' w')(hf:¬Fin P S)(h:GK P S S'):∃dz ae af w₁,wM P gl st dz T S' ae af w₁/\dz.ch=m.ch/\∀r r' l,m.ch r=some r'->Holds S r l->Holds S' r l\/∃v,Holds S' r (l++[v]):=by
 obtain⟨am,ag,ah,_⟩:=align O.world;have hn:=ll O.iq O.stack
 cases h with
 |go h=>
  obtain⟨dz,f,c,ou,es,_,h1,h2,h3,h4,_⟩:=yW (main':=true) O.qf O.stack hn (λa b c d=>hf ⟨a,b,c,d⟩) ag ah h;refine⟨dz,f,c,ou,⟨O.qf.mono h1,by rw[h1.iq];exact O.iq,λr r' hr=>by rw[h4.mT O.iq]at hr;rw[h4.lz];exact O.op r r' hr,h2,h3⟩,h4.mT O.iq,λr r' l hr hl=>.inl ?_⟩;obtain⟨cap,buf,gN,U,tm,hx⟩:=O.op r r' hr;have a:=(O.world.lz r _ hx).1;have b:=(h3.lz r _ (by rw[h4.lz];exact hx)).1;have:=hl.one ⟨cap,buf,gN,U,tm,a,rfl⟩;exact⟨cap,buf,gN,U,tm,b,this.symm⟩
 |@send _ _ _ f0 c0 r0 v z w₁ es cap buf gN U tm h hc hb=>
  obtain⟨f1,c1,dz,aj,ak,k',ou,an,e0,_,_,h1,h2,h3,h4,h5,_⟩:=uf (main':=true) O.qf O.stack hn ag ah h;obtain⟨rfl,rfl⟩:f0=f1/\c0=c1:=⟨congrArg gx e0,congrArg gv e0⟩;have W:=(h2.qE).finish (VR.undef dz)
  have al:Open (dz.put r0 (.chan cap (buf.push v) false (gN+1) U tm)):=by
   intro s s' ab;by_cases e:s=r0;exact⟨cap,buf.push v,gN+1,U,tm,by simp[Ren.put,e]⟩;have ab:dz.ch s=some s':=ab;rw[h5.mT O.iq]at ab;obtain⟨a,b,c,d,e',hx⟩:=O.op s s' ab;exact⟨a,b,c,d,e',by simp only[Ren.put,e,if_false];rw[h5.lz];exact hx⟩
  refine⟨dz.put r0 _,aj.finish hQ,ak,ou,⟨(O.qf.mono h1).mono (Ren.oS ..),?_,al,?_,h4.put ⟨_,_,_,_,_,_,rfl⟩ ⟨_,_,_,_,_,_,hc⟩⟩,h5.mT O.iq,λr r' l hr hl=>?_⟩;show ¬dz.iq;rw[h1.iq];exact O.iq;exact(h2.set (.refl dz) W.1 W.2.1 W.2.2 (ft ..) (gX ..)).mono (Ren.oS ..);obtain⟨ac,ad,Y,aa,ai,hx⟩:=O.op r r' hr;have a:=(O.world.lz r _ hx).1;have b:=(h4.lz r _ (by rw[h5.lz];exact hx)).1;have el:=hl.one ⟨ac,ad,Y,aa,ai,a,rfl⟩;by_cases e:r=r0;subst e;rw[hc]at b;cases b;refine .inr ⟨v,cap,buf.push v,gN+1,U,tm,?_,by rw[el];simp⟩;simp[jY hc];refine .inl ⟨ac,ad,Y,aa,ai,?_,el.symm⟩;rw[a4 (gt e)];exact b
def yq{r':Nat}{L:List Value}:∀(n:Nat){m:Ren}{S:LS}{fr':Frame}{cs':List Frame}{w':World},wM P gl st m T S fr' cs' w'->m.ch r=some r'->∀{O:LS},bF P n S.m=.next O.m->O.cs≠[]->Holds O r L->∀{l},Holds S r l->l <+: L
 |0,m,S,fr',cs',w',U,W,O,h,Y,hL,l,hl=>by
  simp only[bF,ge]at h
  obtain rfl:=LS.La h
  rw[hl.one hL];exact List.prefix_refl _
 |n+1,m,S,fr',cs',w',U,W,O,h,Y,hL,l,hl=>by
  have hf:=λx=>Cj U.stack x n Y h;obtain⟨S',ho,h2⟩:=CC U.qf U.iq U.op U.stack U.world h;obtain⟨dz,f,c,w,aa,ab,hh⟩:=U.Vk hf ho;have ih:=fun {l}=>yq (L:=L) n aa (by rw[ab];exact W) h2 Y hL (l:=l);rcases hh r r' l W hl with x|⟨v,x⟩
  exact ih x;exact(List.prefix_append l _).trans (ih x)
def mc.prefix{S:LS}(U:wM P gl st m T S fr' cs' w')(W:mc P Stop S){r':Nat}(Y:m.ch r=some r'){L:List Value}(hL:∀O,Stop O->Holds O r L){l:List Value}(hl:Holds S r l):l <+: L:=by
 obtain⟨n,O,h1,h2,h3⟩:=W _ (Jj _);exact yq n U Y (S:=S) h1 h3 (hL _ h2) hl
def qK.next{S:LS}{r':Nat}{v Y:Value}(h:qK P gl st m T S r r' v Y fr' cs' w')(hH:mc P Stop S){L:List Value}(hL:∀O,Stop O->Holds O r L):∃l,Holds S r (l++[v])/\(l++[v]) <+: L:=by
 obtain⟨o,hs⟩:=h.done;obtain⟨f0,wl,cap,buf,gN,U,tm,h1,h2,h3,h4,_⟩:=h.sU
 have W:Holds S r (buf.toList++[v]):=by
  rw[h1];refine⟨cap,buf.push v,gN+1,U,tm,?_,by simp⟩;simp[jY h4]
 exact⟨_,W,hH.prefix hs (r':=r') h.ch hL W⟩
end
variable {buf:Array Value} {tm:Bool} {fr ps:Frame} {c cap s:Nat} {w:World}
def Lv(P:Program):Nat->Goroutine->Prop
 |0,g=>g.status=.finished|n+1,g=>g.status=.finished\/(g.status=.running/\∃g',(∀w,b7 P false g w=.go g' w #[])/\Lv P n g')
def Lv.status{P:Program}{n:Nat}{g:Goroutine}(h:Lv P n g):g.status=.running\/g.status=.finished:=by
 cases n with
 |zero=>exact .inr h|succ n=>exact h.elim .inr λx=>.inl x.1
def Lv.EX{P:Program}:∀{n:Nat}{g:Goroutine},Lv P n g->QuitsD P n 0 g
 |0,_,h=>⟨h,rfl⟩
 |_+1,_,.inl h=>.inl ⟨h,rfl⟩|_+1,_,.inr ⟨h,g',O,U⟩=>.inr ⟨h,g',#[],by simp,O,U.EX⟩
section
variable {P:Program}
def J7(a:Array bJ)(t:bJ)(cs:Array Bool)(O:w.heap[c]?=some (.chan cap buf false s r tm)) :
  (invoke (.builtin .close a t cs) #[.chan (some c)]).runT P w #[]=(.ok (.value (.tuple #[])) {w with heap:=w.heap.setIfInBounds c (.chan cap buf true s r tm)},#[⟨.obj c,false,true⟩,⟨.obj c,true,true⟩]):=by
 obtain⟨k,e,U⟩:∃k,invoke (.builtin .close a t cs) #[.chan (some c)]=Sem.getObj c k/\k (.chan cap buf false s r tm)=Sem.setObj c .. := ⟨_,rfl,rfl⟩;rw[e]
 have W:(Sem.getObj c k).runT P w #[]=(k (.chan cap buf false s r tm)).runT P w (#[].push ⟨.obj c,false,true⟩):=by
  rw[hO];simp only[O];rfl
 rw[W,U];rw[hO];simp only[O];rfl
def closing{a:Array bJ}{t:bJ}{cs:Array Bool}(hm:fr.mode=.returning)(U:fr.defers=[⟨.builtin .close a t cs,#[.chan (some c)]⟩])(W:(P.funcs[fr.fn]?).any (·.norace)=false)(Y:w.heap[c]?=some (.chan cap buf false s r tm)) :
  b7 P false (G fr [ps]) w=.go (G {fr with defers:=[]} [ps]) {w with heap:=w.heap.setIfInBounds c (.chan cap buf true s r tm)} #[⟨.obj c,false,true⟩,⟨.obj c,true,true⟩]:=by
 have e:b7 P false (G fr [ps]) w=bC P false fr [ps] none w:=by unfold b7;simp only[G,hm]
 rw[e];obtain⟨fn,tmps,todo,defers,mode,O,round⟩:=fr;subst hm U;unfold bC;dsimp only;unfold callDeferred;rw[J7 a t cs Y];simp[bP,W,gn,G]
def DY{fn:Func}(hm:fr.mode=.returning)(hd:fr.defers=[])(hk:fr.kind=.deferred)(hf:P.funcs[fr.fn]?=some fn)(hr:fn.results=#[])(O:ps.mode=.panicking [bD])(W:ps.defers=[])(aa:P.funcs[ps.fn]?=none)(Y:ps.todo=[]):Lv P 2 (G fr [ps]):=by
 refine .inr ⟨rfl,G ps [],λw=>?_,.inr ⟨rfl,{frame:=ps,callers:=[],status:=.finished,dying:=none},λw=>?_,rfl⟩⟩;have e:b7 P false (G fr [ps]) w=bC P false fr [ps] none w:=by unfold b7;simp only[G,hm]
 rw[e]
 have U:(bO fn fr.tmps).runT P w #[]=(.ok (.tuple #[]) w,#[]):=by
  rw[Sem.runT_eq,results_none hr _ P w,events_results_none hr ..]
 unfold bC;simp only[hd,hm,hf,U];unfold bL;simp only[hk,O,bD];simp[bP,gn,G];have e:b7 P false (G ps []) w=bC P false ps [] none w:=by unfold b7;simp only[G,O]
 rw[e];unfold bC;simp[W,O,g9,Y,bD]
end
section
variable {P:Program} {m:Ren} {T:List Frame} {gl:Nat->Prop} {st:Bool} {Stop:LS->Prop}
def wM.TU{S:LS}{fr':Frame}{cs':List Frame}{w':World}(hs:wM P gl st m T S fr' cs' w'){rd r c:Nat}(h1:S.cs=[door P])(h2:S.fr.mode=.returning)(h3:S.fr.defers=[⟨.collected rd,#[.chan (some r)]⟩])(hd:m.dead rd)(hr:m.ch r=some c) :
  fr'.mode=.returning/\cs'=T/\(∃a t cs,fr'.defers=[⟨.builtin .close a t cs,#[.chan (some c)]⟩])/\DX fr'.kind T/\fr'.fn=S.fr.fn:=by
 have hS:=hs.stack;have hF:=hS.qE;have O:=hF.mode;have U:=hF.defers;rw[h2]at O;rw[h3]at U;rw[h1]at hS;obtain⟨fn,tm,td,df,md,kd,ac⟩:=fr'
 have W:cs'=T/\DX kd T:=by
  cases hS with
  |one _ _ hb _=>exact⟨rfl,hb⟩|cons _ _ _ h=>cases h
 cases O;refine⟨rfl,W.1,?_,W.2,hF.fn⟩
 cases U with
 |@cons _ d' _ l' hx Y=>
  cases Y;obtain⟨ad,ab⟩:=d';have ht:=hx.target;have ha:=hx.args
  have aa:ab=#[.chan (some c)]:=by
   obtain⟨al⟩:=ab
   cases ha with
   |cons hv hn=>
    cases hn
    cases hv with
    |chan hb=>
     rw[hr]at hb;cases hb;rfl
  subst aa
  cases ht with
  |collected hb=>
   rw[(hs.world.dead rd hd).1]at hb;cases hb
  |mark a t cs _=>exact⟨a,t,cs,rfl⟩
end
section
variable {P:Program} {gs:Array Goroutine} {w w₁:World} {sl:Option (Nat×Nat)} {i:Nat} {g sZ:Goroutine} {es:Array Event} {cases:Array CommCase} {shape:CommShape} {blocking:Bool}
def Me(n:Nat)(O:0<n)(w:World):∃a d,a<n/\(choose (.select n)).run P w=.ok a (w.at d):=by
 by_cases U:n<=1;exact⟨0,w.drawn,O,by simp[choose,hD,gB,U,World.at]⟩;refine⟨(Question.select n).cut (w.tape w.drawn (.select n)),w.drawn+1,?_,by simp[choose,hD,gB,U,World.at]⟩;exact Nat.mod_lt _ O
def j7(w:World)(gs:Array Goroutine)(cases:Array CommCase):List (Nat×CommCase×List Way):=(cases.zipIdx.toList.map λ(c,k)=>(k,c,ways w gs c)).filter λ(_,_,ws)=>!ws.isEmpty
def mem_ready{gs:Array Goroutine}{x:Nat×CommCase×List Way}(h:x∈j7 w₁ gs cases):cases[x.1]?=some x.2.1/\x.2.2=ways w₁ gs x.2.1/\x.2.2≠[]:=by
 unfold j7 at h;rw[cU,cR]at h;obtain⟨⟨⟨cc,k⟩,hm,rfl⟩,W⟩:=h;obtain⟨j,U⟩:=cS.1 hm;simp at U;obtain⟨_,O,rfl,rfl⟩:=U;refine⟨O,rfl,λe=>?_⟩;have e:ways w₁ gs _=[]:=e;simp[e]at W
def Q7{gs:Array Goroutine}{k:Nat}{cc:CommCase}(O:cases[k]?=some cc)(U:ways w₁ gs cc≠[]):j7 w₁ gs cases≠[]:=by
 have:(k,cc,ways w₁ gs cc)∈j7 w₁ gs cases:=by
  unfold j7;rw[cU,cR];refine⟨⟨(cc,k),?_,rfl⟩,?_⟩;refine cS.2 ⟨k,?_⟩;simp[O]
  cases e:ways w₁ gs cc with
  |nil=>exact absurd e U|cons a l=>rfl
 intro e;rw[e]at this;cases this
def Bv(hi:gs[i]?=some g)(h:b7 P (i==0) g w=.comm sZ cases blocking shape w₁ es)(aa:∀cc∈cases,cC w₁ cc=false)
  (ab:∀(k:Nat)cc,cases[k]?=some cc->ways w₁ (gs.setIfInBounds i ph) cc=[]\/(∃c z cap buf s r tm,cc=ca c z/\w₁.heap[c]?=some (.chan cap buf true s r tm)/\ways w₁ (gs.setIfInBounds i ph) cc=[.closed])\/(∃c z cap buf cl s r tm j q,cc=ca c z/\w₁.heap[c]?=some (.chan cap buf cl s r tm)/\ways w₁ (gs.setIfInBounds i ph) cc=[.partner j q]))
  (af:∃(k:Nat)(cc:CommCase),cases[k]?=some cc/\ways w₁ (gs.setIfInBounds i ph) cc≠[]) :
  (∃(k:Nat)(c:Nat)(z:Value)(d:Nat),cases[k]?=some (ca c z)/\ways w₁ (gs.setIfInBounds i ph) (ca c z)=[.closed]/\bT P (cb gs w sl) i=(.next (cb (gs.setIfInBounds i (sZ.finishComm P cases shape k z false)) (w₁.at d) sl),dk i g.frame.fn g.frame.place es++#[{g:=i,fn:=sZ.frame.fn,pos:=sZ.frame.place,act:=.recvClosed c}]))\/
  (∃(k:Nat)(c:Nat)(z:Value)(d j q cap s r:Nat)(buf:Array Value)(cl tm:Bool),cases[k]?=some (ca c z)/\w₁.heap[c]?=some (.chan cap buf cl s r tm)/\ways w₁ (gs.setIfInBounds i ph) (ca c z)=[.partner j q]/\
    bT P (cb gs w sl) i=(.next (cb ((finishPartner P (gs.setIfInBounds i ph) j q hQ).setIfInBounds i (sZ.finishComm P cases shape k (bR (gs.setIfInBounds i ph) j q) true)) {w₁.at d with heap:=w₁.heap.setIfInBounds c (.chan cap buf cl (s+1) (r+1) tm)} sl),
     dk i g.frame.fn g.frame.place es++#[{g:=j,fn:=((gs.setIfInBounds i ph).getD j default).frame.fn,pos:=((gs.setIfInBounds i ph).getD j default).frame.place,act:=.send c s},{g:=i,fn:=sZ.frame.fn,pos:=sZ.frame.place,act:=.recv c r cap},{g:=j,fn:=((gs.setIfInBounds i ph).getD j default).frame.fn,pos:=((gs.setIfInBounds i ph).getD j default).frame.place,act:=.sendDone c s},{g:=i,fn:=sZ.frame.fn,pos:=sZ.frame.place,act:=.recvDone c r}])):=by
 obtain⟨k0,ak,ag,ah⟩:=af;have ac:=Q7 ag ah
 have ad:0<(j7 w₁ (gs.setIfInBounds i ph) cases).length:=by
  cases Y:j7 w₁ (gs.setIfInBounds i ph) cases with
  |nil=>exact absurd Y ac|cons a l=>simp
 obtain⟨a,d,ha,ai⟩:=Me (P:=P) _ ad w₁;obtain⟨x,Y⟩:∃x,(j7 w₁ _ cases)[a]?=some x:=⟨_,List.getElem?_eq_getElem ha⟩;have ae:=mem_ready (cS.2 ⟨a,Y⟩);obtain⟨k,cc,ws⟩:=x;obtain⟨h1,h2,h3⟩:=ae;have U:(j7 w₁ (gs.setIfInBounds i ph) cases).getD a (0,default,[])=(k,cc,ws):=by simp[List.getD,Y]
 have W:(j7 w₁ (gs.setIfInBounds i ph) cases).isEmpty=false:=by
  cases Y:j7 w₁ _ cases with
  |nil=>exact absurd Y ac|cons a l=>rfl
 rw[cz hi h];unfold b8;rw[if_neg (by rw[eC];exact any_ill aa)]
 have O:∀(f:Nat->Sem (Nat×CommCase×Way)),((choose (.select (j7 w₁ (gs.setIfInBounds i ph) cases).length)).bind f).run P w₁=(f a).run P (w₁.at d):=by
  intro f;rw[Sem.run_bind',ai];rfl
 have aj:(w₁.at d).heap=w₁.heap:=rfl;rcases ab k cc h1 with e|⟨c,z,cap,buf,s,r,tm,rfl,hc,e⟩|⟨c,z,cap,buf,cl,s,r,tm,j,q,rfl,hc,e⟩
 rw[e]at h2;exact absurd h2 h3;rw[e]at h2;subst h2;refine .inl ⟨k,c,z,d,h1,e,?_⟩;have hf:((cases.zipIdx.toList.map λ(c,k)=>(k,c,ways w₁ (gs.setIfInBounds i ph) c)).filter _)=j7 w₁ _ cases:=rfl;simp only[hf,W,et,if_false,bind,O,U];simp[choose,hD,gB,bind,hM,pure,ca,cb];rw[e]at h2;subst h2;refine .inr ⟨k,c,z,d,j,q,cap,s,r,buf,cl,tm,h1,hc,e,?_⟩;have hf:((cases.zipIdx.toList.map λ(c,k)=>(k,c,ways w₁ (gs.setIfInBounds i ph) c)).filter _)=j7 w₁ _ cases:=rfl;simp only[hf,W,et,if_false,bind,O,U];simp[choose,hD,gB,bind,hM,pure,ca,cb,aj,hc]
end
variable {r z:MemOp} {i p pc pr:Nat}
def l8(t:bB):Prop:=∀op∈t,op.act≠.mark .disable/\op.act≠.mark .enable
section
variable {t u:bB}
def l8.append(U:l8 t)(W:l8 u):l8 (t++u):=λop O=>(Array.mem_append.1 O).elim (U op) (W op)
def l8.deaf(h:l8 t)(g:Nat):∀i,t.deaf g i=0:=by
 intro i;induction i with
 |zero=>rfl|succ i U=>
  unfold bB.deaf;split;rename_i O;exact absurd rfl (h _ (c7 O)).1;rename_i O;exact absurd rfl (h _ (c7 O)).2;exact U
def l8.heard(h:l8 t){op:MemOp}(hi:t[i]?=some op):t.heard i:=⟨op.g,by simp[hC,hi],h.deaf ..⟩
def Mq(W:l8 t){c:Nat}(Y:t[pc]?=some z)(O:z.act=.close c)(hr:t[pr]?=some r)(U:r.act=.recvClosed c):bU t pc pr:=
 .single (.inr ⟨.closed (c:=c) (by simp[hA,Y,O]) (by simp[hA,hr,U]),W.heard Y,W.heard hr⟩)
def MR(Y:l8 t){c:Nat}(hz:t[pc]?=some z)(O:z.act=.close c)(W:t[pr]?=some r)(U:r.act=.recvClosed c)(hp:Before t p pc):ct t r.g p:=
 ⟨pr,r,W,rfl,.inr (hp.hb (Mq Y hz O W U))⟩
def Jp(Y:l8 t){c:Nat}(W:t[pc]?=some z)(O:z.act=.close c)(hr:t[pr]?=some r)(U:r.act=.recvClosed c){y:MemOp}(hy:t[p]?=some y)(hg:y.g=z.g)(hp:p<=pc):ct t r.g p:=by
 refine MR Y W O hr U ?_;rcases Nat.lt_or_eq_of_le hp with h|h
 exact .inr (hb_po h hy W hg);exact .inl h
def GP{n:Nat}{a b:MemOp}(hw:l8 (t++#[a,b]))(ha:a.g=i)(U:a.act=.go n)(hb:b.g=n)(W:b.act=.start)(hp:ct t i p):ct (t++#[a,b]) n p:=by
 have Y:(t++#[a,b])[t.size]?=some a:=by simp
 have O:(t++#[a,b])[t.size+1]?=some b:=by simp
 have e1:=hp.hb_new (db _) Y ha;have e2:bU .. := .single (.inr ⟨.spawn (child:=n) (by simp[hA,Y,U]) (by simp[hA,O,W]) (by simp[hC,O,hb]),hw.heard Y,hw.heard O⟩);exact⟨t.size+1,b,O,hb,.inr (e1.trans e2)⟩
def nO.mute{g:Nat}{m:Ren}(h:nO t g m)(Y:∀op∈u,op.act.touch?=none):nO (t++u) g m:=by
 intro p x q r hx hq hr O;rcases eh hx with⟨_,U⟩|⟨op,U,_,W⟩
 exact(h p x q r U hq hr O).app u;rw[Y op U]at W;cases W
end
def mw(t:bB)(A:Nat->Prop):Prop:=∀p a,cd t p=some a->a.loc.isMemory=true->ct t 0 p\/∃op,t[p]?=some op/\A op.g
section
variable {t u:bB} {A A':Nat->Prop}
def mw.mono(h:mw t A)(O:∀i,A i->A' i):mw t A':=λp a U hm=>(h p a U hm).imp id λ⟨op,W,Y⟩=>⟨op,W,O _ Y⟩
def mw.app(h:mw t A)(Y:∀op∈u,op.act.touch?=none\/op.g=0\/A op.g):mw (t++u) A:=by
 intro p a ha hm;rcases eh ha with⟨hp,O⟩|⟨op,O,U,W⟩
 rcases h p a O hm with x|⟨op,x,y⟩
 exact .inl (x.app u);exact .inr ⟨op,by rw[cj hp];exact x,y⟩;rcases Y op O with x|x|x
 rw[x]at W;cases W;have:=cw U;rw[x]at this;exact .inl this;exact .inr ⟨op,U,x⟩
def mw.join(h:mw t A)(hw:l8 t){j pc pr c:Nat}{z r:MemOp}(hz:t[pc]?=some z)(U:z.g=j)(W:z.act=.close c)(hr:t[pr]?=some r)(Y:r.g=0)(aa:r.act=.recvClosed c)(O:∀p a op,cd t p=some a->t[p]?=some op->op.g=j->p<=pc):mw t λi=>A i/\i≠j:=by
 intro p a ha hm;rcases h p a ha hm with x|⟨op,x,y⟩
 exact .inl x;by_cases e:op.g=j;have:=Jp hw hz W hr aa x (e.trans U.symm) (O p a op ha x e);rw[Y]at this;exact .inl this;exact .inr ⟨op,x,y,e⟩
def mw.over(h:mw t λ_=>False):t.HandedOver:=by
 intro i g hg O hc;obtain⟨x,hx,hm,_⟩:=hc;rcases h i x hx hm with⟨q,z,W,Y,U⟩|⟨_,_,h⟩
 refine⟨q,by simp[hC,W,Y],?_⟩;rcases U with rfl|U
 exact absurd (by simpa[hC,W,Y]using hg.symm) O;exact U;exact h.elim
def Pj{m:Ren}{e:Event}(h:py m e):gc e≠.mark .disable/\gc e≠.mark .enable:=by
 obtain⟨loc,wr,O⟩:=e
 cases loc with
 |mark x=>
  have U:=h;cases x<;>first|exact U.elim|simp[gc]
 |_=>cases wr<;>cases O<;>simp[gc]
def Cr(h:l8 t){m:Ren}{g:Nat}{fn:bA}{pos:String}{es:Array Event}(W:∀e∈es,py m e):l8 (t++dk g fn pos es):=by
 refine h.append λop O=>?_;obtain⟨e,U,rfl⟩:=bW O;exact Pj (W e U)
end
end
section
open Go.Conc
structure mW where
 gl:Nat->Prop
 T:List Frame
 Stop:LS->Prop
 r:Nat
 c:Nat
 rd:Nat
 L:List Value
 l6:Nat->Nat->Obj->Prop
structure mW.Ok(P:Program)(J:mW):Prop where
 blind:zW J.Stop
 holds:∀S,J.Stop S->Holds S J.r J.L
 U7:∀S,J.Stop S->S.cs=[door P]/\S.fr.mode=.returning/\S.fr.defers=[⟨.collected J.rd,#[.chan (some J.r)]⟩]/\∃fn,P.funcs[S.fr.fn]?=some fn/\fn.results=#[]/\fn.norace=false
 back:∀S,J.Stop S->∀r b o,J.l6 r b o->S.w.heap[r]?=some o/\∀(m:Go.Proofs.YtocbogeoffeolaaGreatDoor.Ren)o',OR m o o'->o'=o
 VV:∃ps,J.T=[ps]/\ps.mode=.panicking [bD]/\ps.defers=[]/\P.funcs[ps.fn]?=none/\ps.todo=[]
structure mW.Ren(J:mW)(m:Go.Proofs.YtocbogeoffeolaaGreatDoor.Ren):Prop where
 ch:m.ch J.r=some J.c
 only:∀r r',m.ch r=some r'->r=J.r
 dead:m.dead J.rd
 l6:∀r b o,J.l6 r b o->m.blk r=some b
def mW.Ren.le{J:mW}{m dz:Go.Proofs.YtocbogeoffeolaaGreatDoor.Ren}(h:J.Ren m)(O:m.Le dz)(U:dz.ch=m.ch):J.Ren dz:=⟨by rw[U];exact h.ch,λr r' x=>by rw[U]at x;exact h.only r r' x,by rw[O.dead];exact h.dead,λr b o x=>O.blk r b (h.l6 r b o x)⟩
structure mW.Act(P:Program)(J:mW)(m:Go.Proofs.YtocbogeoffeolaaGreatDoor.Ren)(S:LS)(n:Nat)(g:Goroutine)(w:World):Prop where
 nj:J.Ren m
 ob:mc P J.Stop S
 sU:∃fr' cs',g=G fr' cs'/\wM P J.gl false m J.T S fr' cs' w
 gN:∃l,Holds S J.r l/\l.length=n
structure mW.Mg(P:Program)(J:mW)(m:Go.Proofs.YtocbogeoffeolaaGreatDoor.Ren)(S:LS)(n:Nat)(v':Value)(g:Goroutine)(w:World):Prop where
 nj:J.Ren m
 ob:mc P J.Stop S
 sU:∃v fr' cs',g=G fr' cs'/\qK P J.gl false m J.T S J.r J.c v v' fr' cs' w
 gN:∃l,Holds S J.r l/\l.length=n+1
section
variable {P:Program} {J:mW} {m:Go.Proofs.YtocbogeoffeolaaGreatDoor.Ren} {S:LS} {n:Nat} {g:Goroutine} {w:World}
def mW.Mg.value(Y:J.Ok P){U:Value}(h:J.Mg P m S n U g w):∃v,J.L[n]?=some v/\VR m v U:=by
 obtain⟨v,fr',cs',_,W⟩:=h.sU;obtain⟨l,hl,hn⟩:=h.gN;obtain⟨l0,h1,h2⟩:=W.next h.ob Y.holds;have e:=hl.one h1;subst e;have O:=by simpa using hn
 refine⟨v,?_,W.val⟩;obtain⟨tl,e⟩:=h2;rw[<-e,<-O];simp
def mW.Mg.done{O:Value}(h:J.Mg P m S n O g w):∃dz,m.Le dz/\dz.blk=m.blk/\dz.loose=m.loose/\J.Act P dz S (n+1) (bZ g hQ) w:=by
 obtain⟨v,fr',cs',rfl,U⟩:=h.sU;obtain⟨o,W⟩:=U.done;exact⟨m.put _ o,Ren.oS ..,rfl,rfl,h.nj.le (Ren.oS ..) rfl,h.ob,⟨_,_,rfl,W⟩,h.gN⟩
def mW.Act.stands(U:J.Ok P)(h:J.Act P m S n g w)(O:J.Stop S):n=J.L.length/\∃fr ps a t cs,g=G fr [ps]/\fr.mode=.returning/\fr.defers=[⟨.builtin .close a t cs,#[.chan (some J.c)]⟩]/\(P.funcs[fr.fn]?).any (·.norace)=false/\Lv P 2 (G {fr with defers:=[]} [ps]):=by
 obtain⟨fr',cs',rfl,hs⟩:=h.sU;obtain⟨l,hl,rfl⟩:=h.gN;obtain⟨f1,f2,f3,fn,f4,f5,f6⟩:=U.U7 S O;obtain⟨ps,W,Y,p2,p3,p4⟩:=U.VV;obtain⟨g1,g2,⟨a,t,cs,g3⟩,g4,g5⟩:=hs.TU f1 f2 f3 h.nj.dead h.nj.ch;refine⟨by rw[hl.one (U.holds S O)],fr',ps,a,t,cs,by rw[g2,W],g1,g3,by rw[g5,f4];simp[f6],?_⟩
 have hk:fr'.kind=.deferred:=by
  rcases g4 with⟨_,h⟩|⟨h,_⟩
  exact absurd Y (h ps W);exact h
 exact DY (fn:=fn) g1 rfl hk (by rw[g5];exact f4) f5 Y p2 p3 p4
end
inductive mW.Next(P:Program)(J:mW)(m:Go.Proofs.YtocbogeoffeolaaGreatDoor.Ren)(S:LS)(n:Nat)(w:World):GStep->Prop
 |go {S' dz g₁ w₁ es}:nD P J.Stop S' S->m.Le dz->J.Act P dz S' n g₁ w₁->fI m dz w w₁->(∀e∈es,py dz e)->mW.Next P J m S n w (.go g₁ w₁ es)|send {S' dz g₁ w₁ es v' z'}:nD P J.Stop S' S->m.Le dz->J.Mg P dz S' n v' g₁ w₁->fI m dz w w₁->(∀e∈es,py dz e)->mW.Next P J m S n w (.comm g₁ #[ck J.c v' z'] true .send w₁ es)
section
variable {P:Program} {J:mW} {m:Go.Proofs.YtocbogeoffeolaaGreatDoor.Ren} {S:LS} {n:Nat} {g:Goroutine} {w:World}
def MV{T:List Frame}{gl:Nat->Prop}{st:Bool}{Stop:LS->Prop}{S S':LS}{fr':Frame}{cs':List Frame}{w':World}(U:zW Stop)(O:wM P gl st m T S fr' cs' w')(W:mc P Stop S)(Y:nD P Stop S' S){r r':Nat}{l:List Value}(hr:m.ch r=some r')(hl:Holds S r l):Holds S' r l\/∃v,Holds S' r (l++[v]):=by
 obtain⟨hn,τ,hb,ho⟩:=Y;have hf:=(W.step U ⟨_,_,_,_,_,_,_,O⟩ hn τ hb).1;obtain⟨_,_,_,_,_,_,h⟩:=(O.on τ).Vk (λx=>hf ⟨x.1,x.2⟩) ho;exact h r r' l hr hl
def mW.Act.Cl(hJ:J.Ok P)(h:J.Act P m S n g w)(hn:¬J.Stop S):mW.Next P J m S n w (b7 P false g w):=by
 obtain⟨fr',cs',rfl,W⟩:=h.sU;obtain⟨l,hl,ad⟩:=h.gN;have hd:=W.U6 hJ.blind h.ob hn false;generalize b7 P false _ w=s at hd
 cases hd with
 |@go S' dz Y aa w₁ es hg U ae hk he=>
  have hh:=(h.ob.own hJ.blind ⟨_,_,_,_,_,_,_,W⟩ hg).2;refine .go hg U ⟨h.nj.le U (hk.mT W.iq),hh,⟨_,_,rfl,ae⟩,l,?_,ad⟩ hk he;obtain⟨cap,buf,gN,O,tm,hx⟩:=W.op _ _ h.nj.ch;have a:=(W.world.lz _ _ hx).1;have b:=(ae.world.lz _ _ (by rw[hk.lz];exact hx)).1;have e:=hl.one ⟨cap,buf,gN,O,tm,a,rfl⟩;exact⟨cap,buf,gN,O,tm,b,e.symm⟩
 |@send S' dz Y aa w₁ es r r' v v' z' hg U hp hk he=>
  have hh:=(h.ob.own hJ.blind ⟨_,_,_,_,_,_,_,W⟩ hg).2;have af:=hk.mT W.iq;have hr:m.ch r=some r':=by rw[<-af];exact hp.ch
  have er:=h.nj.only r r' hr;subst er;have ai:r'=J.c:=by rw[h.nj.ch]at hr;cases hr;rfl
  subst ai;refine .send hg U ⟨h.nj.le U af,hh,⟨v,_,_,rfl,hp⟩,?_⟩ hk he;obtain⟨l0,h1,_⟩:=hp.next hh hJ.holds;refine⟨l0++[v],h1,?_⟩;rcases MV hJ.blind W h.ob hg h.nj.ch hl with x|⟨u,x⟩
  obtain⟨f0,wl,cap,buf,gN,O,tm,e1,_,aj,hc,_⟩:=hp.sU;obtain⟨ag,ah,ab,ac,ak,hx⟩:=W.op _ _ h.nj.ch;have a:=(W.world.lz _ _ hx).1;have b:=(aj.lz _ _ (by rw[hk.lz];exact hx)).1;have e:=hl.one ⟨ag,ah,ab,ac,ak,a,rfl⟩;rw[hc]at b;cases b
  have hS:Holds S' J.r (buf.toList++[v]):=by
   rw[e1];refine⟨cap,buf.push v,gN+1,O,tm,?_,by simp⟩;simp[jY hc]
  have:=hS.one x;rw[e]at this;simp at this;have:=h1.one x;simp[this,ad]
end
variable {J:mW} {fK Pd:Nat->Prop} {m:Ren}
def rL(P:Program)(J:mW)(m:Ren)(S:LS):Nat->Goroutine->Prop
 |0,g=>g.status=.running/\∀w,WR m S.w w->∃fr' cs' d es,b7 P false g w=.go (G fr' cs') (w.at d) es/\(∀e∈es,py m e)/\wM P J.gl false m J.T S fr' cs' (w.at d)|k+1,g=>g.status=.running/\∀w,WR m S.w w->∃g' d es,b7 P false g w=.go g' (w.at d) es/\(∀e∈es,py m e)/\rL P J m S k g'
inductive eG
 |quit (q:Nat)|ended (heard:Bool) (J:mW) (m:Ren) (S:LS) (q:Nat)|act (J:mW) (m:Ren) (S:LS) (n:Nat)|j0 (J:mW) (m:Ren) (S:LS) (n:Nat) (v:Value)|start (J:mW) (m:Ren) (S:LS) (k:Nat)
def eG.nj:eG->Option Ren
 |.quit _=>none|.ended _ _ m _ _|.act _ m _ _|.j0 _ m _ _ _|.start _ m _ _=>some m
def eG.live:eG->Option Ren
 |.quit _|.ended .. => none|.act _ m _ _|.j0 _ m _ _ _|.start _ m _ _=>some m
def eG.sY:eG->Option mW
 |.quit _=>none|.ended _ J _ _ _|.act J _ _ _|.j0 J _ _ _ _|.start J _ _ _=>some J
def eG.chan:eG->Option mW
 |.quit _|.ended .. => none|.act J _ _ _|.j0 J _ _ _ _|.start J _ _ _=>some J
def eG.sum:eG->Option (mW×Nat)
 |.quit _|.ended true .. => none|.ended false J _ _ _=>some (J,J.L.length)|.act J _ _ n|.j0 J _ _ n _=>some (J,n)|.start J _ _ _=>some (J,0)
def gE(w:World)(c:Nat)(cl:Bool):Prop:=∃s r,w.heap[c]?=some (.chan 0 #[] cl s r false)
def At(P:Program)(w:World)(t:bB)(i:Nat)(g:Goroutine):eG->Prop
 |.quit q=>Lv P q g|.ended _ J m S q=>Lv P q g/\J.Ren m/\(J.Stop S/\J.Ok P)/\WR m S.w w/\gE w J.c true/\∃pc z,t[pc]?=some z/\z.g=i/\z.act=.close J.c/\∀p a op,cd t p=some a->t[p]?=some op->op.g=i->p<=pc|.act J m S n=>J.Ok P/\gE w J.c false/\J.Act P m S n g w|.j0 J m S n v=>J.Ok P/\gE w J.c false/\∃g0 z,g=parked g0 #[ck J.c v z] .send/\J.Mg P m S n v g0 w|.start J m S k=>J.Ok P/\gE w J.c false/\J.Ren m/\mc P J.Stop S/\Holds S J.r []/\WR m S.w w/\rL P J m S k g
section
variable {P:Program} {w w₁:World} {t u:bB} {i:Nat} {g:Goroutine} {ρ:eG}
def WR.at{wl:World}(h:WR m wl w)(d:Nat):WR m wl (w.at d):=h.rely (λ_ _ _=>rfl) (db _) rfl
def rL.status{S:LS}{k:Nat}(h:rL P J m S k g):g.status=.running:=by cases k<;>exact h.1
def At.status(h:At P w t i g ρ):g.status=.running\/g.status=.blocked\/g.status=.finished:=by
 cases ρ with
 |quit q=>exact h.status.elim .inl λx=>.inr (.inr x)|ended O J m S q=>exact h.1.status.elim .inl λx=>.inr (.inr x)|act J m S n=>
  obtain⟨_,_,h⟩:=h;obtain⟨fr,cs,rfl,_⟩:=h.sU;exact .inl rfl
 |j0 J m S n v=>
  obtain⟨_,_,g0,z,rfl,_⟩:=h;exact .inr (.inl rfl)
 |start J m S k=>exact .inl h.2.2.2.2.2.2.status
def At.wr(h:At P w t i g ρ)(hm:ρ.nj=some m):∃wl,WR m wl w:=by
 cases ρ with
 |quit q=>cases hm
 |ended Y J m S q=>cases hm;exact⟨_,h.2.2.2.1⟩
 |act J m S n=>
  cases hm;obtain⟨_,_,h⟩:=h;obtain⟨fr,cs,rfl,O⟩:=h.sU;exact⟨_,O.world⟩
 |j0 J m S n v=>
  cases hm;obtain⟨_,_,g0,z,rfl,U⟩:=h;obtain⟨_,_,_,_,O⟩:=U.sU;obtain⟨_,wl,_,_,_,_,_,_,_,W,_⟩:=O.sU;exact⟨wl,W⟩
 |start J m S k=>cases hm;exact⟨_,h.2.2.2.2.2.1⟩
def At.V8(h:At P w t i g ρ)(hm:ρ.nj=some m)(O:ρ.sY=some J):J.Ren m:=by
 cases ρ with
 |quit q=>cases hm
 |ended W J m S q=>cases hm;cases O;exact h.2.1
 |act J m S n=>cases hm;cases O;exact h.2.2.nj
 |j0 J m S n v=>
  cases hm;cases O;obtain⟨_,_,g0,z,rfl,U⟩:=h;exact U.nj
 |start J m S k=>cases hm;cases O;exact h.2.2.1
def At.is(h:At P w t i g ρ)(O:ρ.sY=some J):∃cl,gE w J.c cl:=by
 cases ρ with
 |quit q=>cases O
 |ended U J m S q=>cases O;exact⟨_,h.2.2.2.2.1⟩
 |act J m S n=>cases O;exact⟨_,h.2.1⟩
 |j0 J m S n v=>cases O;exact⟨_,h.2.1⟩
 |start J m S k=>cases O;exact⟨_,h.2.1⟩
def At.rely(h:At P w t i g ρ)(hk:∀m,ρ.nj=some m->∀r b,m.blk r=some b->w₁.heap[b]?=w.heap[b]?)(hc:∀J,ρ.sY=some J->w₁.heap[J.c]?=w.heap[J.c]?)(hs:w.heap.size<=w₁.heap.size)(ho:w₁.os=w.os)(hu:∀op∈u,op.g=i->op.act.touch?=none):At P w₁ (t++u) i g ρ:=by
 have W:∀J cl,ρ.sY=some J->gE w J.c cl->gE w₁ J.c cl:=by
  rintro J cl hJ ⟨s,r,h⟩;exact⟨s,r,by rw[hc J hJ];exact h⟩
 cases ρ with
 |quit q=>exact h|ended hd J m S q=>
  obtain⟨Y,h2,O,h4,h5,pc,z,h6,h7,h8,h9⟩:=h;refine⟨Y,h2,O,h4.rely (hk m rfl) hs ho,W J _ rfl h5,pc,z,by rw[cj (cu h6)];exact h6,h7,h8,λp a op ha aa hg=>?_⟩;rcases eh ha with⟨hp,Y⟩|⟨ab,x1,x2,x3⟩
  exact h9 p a op Y (by rw[<-cj hp];exact aa) hg;rw[x2]at aa;cases aa;rw[hu _ x1 hg]at x3;cases x3
 |act J m S n=>
  obtain⟨Y,h2,O⟩:=h;obtain⟨fr,cs,rfl,U⟩:=O.sU;exact⟨Y,W J _ rfl h2,O.nj,O.ob,⟨fr,cs,rfl,U.rely (hk m rfl) hs ho⟩,O.gN⟩
 |j0 J m S n v=>
  obtain⟨Y,h2,g0,z,rfl,O⟩:=h;obtain⟨v0,fr,cs,e,U⟩:=O.sU;exact⟨Y,W J _ rfl h2,g0,z,rfl,O.nj,O.ob,⟨v0,fr,cs,e,U.rely (hk m rfl) hs ho⟩,O.gN⟩
 |start J m S k=>
  obtain⟨Y,h2,O,h4,h5,h6,h7⟩:=h;exact⟨Y,W J _ rfl h2,O,h4,h5,h6.rely (hk m rfl) hs ho,h7⟩
def At.woken(h:At P w t i g ρ)(a O:Goroutine):cE P a O w g=g:=by
 cases ρ with
 |quit q=>exact c9 h.EX|ended W J m S q=>exact c9 h.1.EX|act J m S n=>
  obtain⟨_,_,h⟩:=h;obtain⟨fr,cs,rfl,_⟩:=h.sU;exact woken_run rfl
 |j0 J m S n v=>
  obtain⟨_,⟨s,r,U⟩,g0,z,rfl,_⟩:=h;exact woken_send_open a O U
 |start J m S k=>exact woken_run h.2.2.2.2.2.2.status
end
def Kn(fK:Nat->Prop)(ρ:Nat->eG)(t:bB):Prop:=∀p a b,cd t p=some a->lR a.loc=some b->fK b->ct t 0 p\/∃i m' r,(ρ i).nj=some m'/\m'.blk r=some b
def Kn.app{ρ ρ':Nat->eG}{t u:bB}(h:Kn fK ρ t)(Y:∀i m' r b,(ρ i).nj=some m'->m'.blk r=some b->∃i' O r',(ρ' i').nj=some O/\O.blk r'=some b)(hu:∀op∈u,∀a b,op.act.touch?=some a->lR a.loc=some b->fK b->op.g=0\/∃i m' r,(ρ' i).nj=some m'/\m'.blk r=some b):Kn fK ρ' (t++u):=by
 intro p a b ha hb W;rcases eh ha with⟨_,U⟩|⟨op,U,h2,h3⟩
 rcases h p a b U hb W with x|⟨i,m',r,x,y⟩
 exact .inl (x.app u);exact .inr (Y i m' r b x y);rcases hu op U a b h3 hb W with x|x
 have:=cw h2;rw[x]at this;exact .inl this;exact .inr x
def Kn.same{ρ ρ':Nat->eG}{t:bB}(h:Kn fK ρ t)(O:∀j,(ρ' j).nj=(ρ j).nj):Kn fK ρ' t:=λp a b U hb W=>(h p a b U hb W).imp id λ⟨i,m',r,x,y⟩=>⟨i,m',r,by rw[O];exact x,y⟩
def TX(Pd fK:Nat->Prop)(ρ:Nat->eG)(w:World)(t:bB):Prop:=∀c,Pd c->gE w c false/\(∀p a,cd t p=some a->lR a.loc≠some c)/\(∀i J,(ρ i).sY=some J->J.c≠c)/\¬fK c
def TX.app{ρ ρ':Nat->eG}{w w₁:World}{t u:bB}(h:TX Pd fK ρ w t)(W:∀j,(ρ' j).sY=(ρ j).sY)(Y:∀c,Pd c->gE w c false->w₁.heap[c]?=w.heap[c]?)(hu:∀op∈u,∀a c,op.act.touch?=some a->Pd c->gE w c false->lR a.loc≠some c):TX Pd fK ρ' w₁ (t++u):=by
 intro c O;obtain⟨⟨s,r,U⟩,h2,h3,h4⟩:=h c O;refine⟨⟨s,r,by rw[Y c O ⟨s,r,U⟩];exact U⟩,λp a ha=>?_,λi J hJ=>h3 i J (by rw[<-W];exact hJ),h4⟩;rcases eh ha with⟨_,x⟩|⟨op,x,_,y⟩
 exact h2 p a x;exact hu op x a c y O ⟨s,r,U⟩
def TX.same{ρ ρ':Nat->eG}{w w₁:World}{t:bB}(h:TX Pd fK ρ w t)(O:∀j,(ρ' j).sY=(ρ j).sY)(U:w₁.heap=w.heap):TX Pd fK ρ' w₁ t:=by
 have:=h.app (u:=#[]) (w₁:=w₁) O (λc _ _=>by rw[U]) (by simp);simpa using this
def pF:Obj:=.deferred none
def Vy(fK:Nat->Prop)(w0:World)(ρ:Nat->eG):Prop:=∀b,b<w0.heap.size->fK b\/(∃i J r o,(ρ i).sY=some J/\J.l6 r b o/\w0.heap[b]?=some o)\/w0.heap[b]?=some pF
def Vy.same{w0:World}{ρ ρ':Nat->eG}(h:Vy fK w0 ρ)(O:∀j,(ρ' j).sY=(ρ j).sY):Vy fK w0 ρ':=λb hb=>(h b hb).imp id λz=>z.imp (λ⟨i,J,r,o,x,y⟩=>⟨i,J,r,o,by rw[O];exact x,y⟩) id
structure Co(P:Program)(fK:Nat->Prop)(w0:World)(Pd:Nat->Prop)(ρ:Nat->eG)(m:Ren)(wl:World)(gs:Array Goroutine)(w:World)(t:bB):Prop where
 main:WR m wl w
 at_:∀i g,0<i->gs[i]?=some g->At P w t i g (ρ i)
 out:∀i,i=0\/gs.size<=i->ρ i=.quit 0
 d0:∀i m',(ρ i).nj=some m'->ol m m'
 dd:∀i j m1 m2,i≠j->(ρ i).nj=some m1->(ρ j).nj=some m2->ol m1 m2
 cc:∀i j J1 J2,i≠j->(ρ i).sY=some J1->(ρ j).sY=some J2->J1.c≠J2.c
 s0:nO t 0 m
 ss:∀i m',(ρ i).live=some m'->nO t i m'
 LI:∀i J,(ρ i).chan=some J->∀p a,cd t p=some a->lR a.loc≠some J.c
 low:OA t w.heap.size
 hears:l8 t
 kQ:mw t λi=>(ρ i).sum≠none
 clean:∀said,¬bV said t
 fix:∀b,fK b->b<w.heap.size/\w.heap[b]?=w0.heap[b]?
 f0:∀r b,m.blk r=some b->fK b->m.loose r
 ff:∀i m',(ρ i).nj=some m'->∀r b,m'.blk r=some b->fK b->m'.loose r
 cx:∀i J,(ρ i).sY=some J->¬fK J.c
 sz:w0.heap.size<=w.heap.size
 os:w.os=w0.os/\w.output=w0.output
 kn:Kn fK ρ t
 pd:TX Pd fK ρ w t
 len:Vy fK w0 ρ
end
section
open Go.Conc
open Go.ConcN (upd upd_same upd_ne)
variable {es:Array Event} {fn:bA} {g':Goroutine} {J:mW} {c:Nat} {dz:Ren} {ρ':eG} {pos:String}
def fI.at(m:Ren)(w:World)(d:Nat):fI m m w (w.at d):=⟨λ_ _ _=>rfl,db _,λr' h O=>absurd O (by show ¬r'<w.heap.size;omega),λ_ _ h=>.inl h,λ_ _ h=>.inl h,rfl,rfl,rfl,λ_=>rfl,rfl,λ_ _ _ _=>rfl⟩
def eG.nG{ρ:eG}{m:Ren}(h:ρ.live=some m):ρ.nj=some m:=by cases ρ<;>first|cases h;rfl|cases h
def eG.u9{ρ:eG}(h:ρ.chan=some J):ρ.sY=some J:=by cases ρ<;>first|cases h;rfl|cases h
def eG.Qn{ρ:eG}{m:Ren}(h:ρ.live=some m):ρ.sum≠none:=by cases ρ<;>first|(simp[eG.sum];done)|cases h
def WR.yG{m:Ren}{wl w:World}(h:WR m wl w){cl:Bool}(O:gE w c cl){r:Nat}:m.blk r≠some c:=by
 intro W;obtain⟨s,y,O⟩:=O;obtain⟨o,o',_,U,Y⟩:=h.obj r c W;rw[O]at U;cases U;cases Y
def fI.PC{m:Ren}{w w₁ wl:World}(U:fI m dz w w₁)(W:WR m wl w){cl:Bool}(O:gE w c cl):w₁.heap[c]?=w.heap[c]?:=by
 obtain⟨s,y,O⟩:=O;rw[O];exact U.chan W O
def ofEvents_g{g:Nat}{op:MemOp}(h:op∈dk g fn pos es):op.g=g:=by
 obtain⟨e,_,rfl⟩:=bW h;rfl
section
variable {P:Program} {fK:Nat->Prop} {w0:World} {Pd:Nat->Prop} {ρ:Nat->eG} {m:Ren} {wl:World} {gs gs':Array Goroutine} {w w₁:World} {t:bB}
def Co.get(h:Co P fK w0 Pd ρ m wl gs w t){i:Nat}(W:ρ i≠.quit 0):∃g,0<i/\gs[i]?=some g/\At P w t i g (ρ i):=by
 by_cases hi:i=0\/gs.size<=i;exact absurd (h.out i hi) W;have O:i<gs.size:=by omega
 have U:=bp O;exact⟨gs[i],by omega,U,h.at_ i _ (by omega) U⟩
def Co.wr(h:Co P fK w0 Pd ρ m wl gs w t){i:Nat}{m':Ren}(O:(ρ i).nj=some m'):∃wl',WR m' wl' w:=by
 obtain⟨g,_,_,U⟩:=h.get (i:=i) λe=>by rw[e]at O;cases O
 exact U.wr O
def Co.is(h:Co P fK w0 Pd ρ m wl gs w t){i:Nat}(O:(ρ i).sY=some J):∃cl,gE w J.c cl:=by
 obtain⟨g,_,_,U⟩:=h.get (i:=i) λe=>by rw[e]at O;cases O
 exact U.is O
def Co.step{i:Nat}{mi:Ren}{qZ:World}(h:Co P fK w0 Pd ρ m wl gs w t)(hi:0<i)(ay:i<gs.size)(hl:(ρ i).live=some mi)(ae:mi.Le dz)(Y:fI mi dz w w₁)(he:∀e∈es,py dz e)(ab:WR dz qZ w₁)
  (ai:At P w₁ (t++dk i fn pos es) i g' ρ') (aj:ρ'.live=some dz) (an:ρ'.sY=(ρ i).sY) (hc:ρ'.chan=(ρ i).chan) (hs:ρ'.sum=(ρ i).sum)
  (ao:gs'.size=gs.size) (ap:gs'[i]?=some g') (aq:∀j x,0<j->j≠i->gs'[j]?=some x->∃y,gs[j]?=some y/\(At P w₁ (t++dk i fn pos es) j y (ρ j)->x=y)) :
  Co P fK w0 Pd (cO ρ i ρ') m wl gs' w₁ (t++dk i fn pos es):=by
 have hr:=eG.nG hl;have ad:=eG.nG aj;obtain⟨az,ar⟩:=h.wr hr;have W:∀c cl,gE w c cl->w₁.heap[c]?=w.heap[c]?:=λc cl x=>Y.PC ar x
 have aa:∀j,(cO ρ i ρ' j).sY=(ρ j).sY:=λj=>by
  by_cases e:j=i;subst e;rw[cM];exact an;rw[cN _ _ e]
 have ak:∀j,(cO ρ i ρ' j).chan=(ρ j).chan:=λj=>by
  by_cases e:j=i;subst e;rw[cM];exact hc;rw[cN _ _ e]
 have ag:∀j,(cO ρ i ρ' j).sum=(ρ j).sum:=λj=>by
  by_cases e:j=i;subst e;rw[cM];exact hs;rw[cN _ _ e]
 have dm:ol m dz:=(ol.grow (h.d0 i mi hr).symm ae Y h.main).symm
 have dj:∀j m',j≠i->(ρ j).nj=some m'->ol dz m':=λj m' U O=>by
  obtain⟨wl',au⟩:=h.wr O;exact ol.grow (h.dd i j mi m' (gt U) hr O) ae Y au
 have hrel:∀j y,0<j->j≠i->gs[j]?=some y->At P w₁ (t++dk i fn pos es) j y (ρ j):=by
  intro j y hj U hy;refine(h.at_ j y hj hy).rely (λm' O=>Y.leaves (h.dd i j mi m' (gt U) hr O) (h.wr O).choose_spec) (λJ hJ=>?_) Y.size Y.os λop ac hg=>absurd (ofEvents_g ac) (by rw[hg];exact U);obtain⟨cl,hx⟩:=h.is hJ;exact W _ cl hx
 have av:∀j x,0<j->gs'[j]?=some x->At P w₁ (t++dk i fn pos es) j x (cO ρ i ρ' j):=by
  intro j x al hx;by_cases e:j=i;subst e;rw[ap]at hx;cases hx;rw[cM];exact ai;rw[cN _ _ e];obtain⟨y,hy,aw⟩:=aq j x al e hx;have:=hrel j y al e hy;rw[aw this];exact this
 have si:nO t i dz:=(h.ss i mi hl).grow ae h.low Y.news;refine⟨h.main.rely (Y.leaves (h.d0 i mi hr).symm h.main) Y.size Y.os,av,λj hj=>?_,λj m' O=>?_,λj k m1 m2 U h1 h2=>?_,λj k J1 J2 U h1 h2=>h.cc j k J1 J2 U (by rw[<-aa];exact h1) (by rw[<-aa];exact h2),h.s0.other dm he,λj m' O=>?_,λj J hJ p a ha hb=>?_,h.low.own ab Y.size he,Cr h.hears he,?_,si.clean h.clean he,λb hb=>?_,h.f0,λj m' O r b am hb=>?_,λj J hJ=>h.cx j J (by rw[<-aa];exact hJ),dc h.sz Y.size,⟨Y.os.trans h.os.1,Y.output.trans h.os.2⟩,h.kn.app (λj m' r b O hb=>?_) (λop ac a b ha hb _=>?_),h.pd.app aa (λc _ ah=>W c _ ah) (λop ac a c ha _ ah hb=>?_),h.len.same aa⟩;rw[cN _ _ (by rintro rfl;rcases hj with x|x<;>omega)];exact h.out j (by rw[<-ao];exact hj);by_cases e:j=i;subst e;rw[cM,ad]at O;cases O;exact dm;rw[cN _ _ e]at O;exact h.d0 j m' O;by_cases e:j=i;subst e;rw[cM,ad]at h1;cases h1;rw[cN _ _ (gt U)]at h2;exact dj k m2 (gt U) h2;rw[cN _ _ e]at h1;by_cases e':k=i;subst e';rw[cM,ad]at h2;cases h2;exact(dj j m1 e h1).symm;rw[cN _ _ e']at h2;exact h.dd j k m1 m2 U h1 h2;by_cases e:j=i;subst e;rw[cM,aj]at O;cases O;exact si.own;rw[cN _ _ e]at O;exact(h.ss j m' O).other (dj j m' e (eG.nG O)).symm he;rw[ak]at hJ;rcases eh ha with⟨_,h1⟩|⟨op,h1,_,h3⟩
 exact h.LI j J hJ p a h1 hb;obtain⟨e,af,rfl⟩:=bW h1
 have hm:a.loc.isMemory=true:=by
  cases hl:a.loc<;>rw[hl]at hb<;>simp[lR]at hb<;>rfl
 obtain⟨b',r',g1,g2,g3⟩:=mF (he e af) h3 hm;rw[hb]at g1;cases g1;obtain⟨cl,s,y,hx⟩:=h.is (eG.u9 hJ);have:gE w₁ _ cl:=⟨s,y,by rw[W _ cl ⟨s,y,hx⟩];exact hx⟩;exact ab.yG this g2;refine(h.kQ.mono λj hj=>by rw[ag];exact hj).app λop ac=>.inr (.inr ?_);rw[ofEvents_g ac,ag];exact eG.Qn hl;obtain⟨h1,h2⟩:=h.fix b hb;refine⟨da h1 Y.size,?_⟩;rw[<-h2];by_cases hx:∃r,mi.blk r=some b;obtain⟨r,hx⟩:=hx;exact Y.still r b hx (h.ff i mi hr r b hx hb);exact Y.old b h1 λr ax=>hx ⟨r,ax⟩;by_cases e:j=i;subst e;rw[cM,ad]at O;cases O;rcases Y.news r b am with x|x
 exact(ae.loose r b x).2 (h.ff j mi hr r b x hb);have:=(h.fix b hb).1;omega;rw[cN _ _ e]at O;exact h.ff j m' O r b am hb;by_cases e:j=i;subst e;rw[hr]at O;cases O;exact⟨j,dz,r,by rw[cM];exact ad,ae.blk _ _ hb⟩;exact⟨j,m',r,by rw[cN _ _ e];exact O,hb⟩;obtain⟨e,af,rfl⟩:=bW ac
 have hm:a.loc.isMemory=true:=by
  cases hl:a.loc<;>rw[hl]at hb<;>simp[lR]at hb<;>rfl
 obtain⟨b',r',g1,g2,g3⟩:=mF (he e af) ha hm;rw[hb]at g1;cases g1;exact .inr ⟨i,dz,r',by rw[cM];exact ad,g2⟩;obtain⟨e,af,rfl⟩:=bW ac
 have hm:a.loc.isMemory=true:=by
  cases hl:a.loc<;>rw[hl]at hb<;>simp[lR]at hb<;>rfl
 obtain⟨b',r',g1,g2,g3⟩:=mF (he e af) ha hm;rw[hb]at g1;cases g1;obtain⟨s,y,hx⟩:=ah;exact ab.yG (cl:=false) ⟨s,y,by rw[W _ false ⟨s,y,hx⟩];exact hx⟩ g2
def Co.SX{i:Nat}(h:Co P fK w0 Pd ρ m wl gs w t)(d:Nat)(hi:0<i)(ag:i<gs.size)(aa:At P (w.at d) t i g' ρ')(hr:ρ'.nj=(ρ i).nj)(hl:ρ'.live=(ρ i).live)(O:ρ'.sY=(ρ i).sY)(hc:ρ'.chan=(ρ i).chan)(hs:ρ'.sum=(ρ i).sum)
  (ac:gs'.size=gs.size) (ad:gs'[i]?=some g') (ae:∀j x,0<j->j≠i->gs'[j]?=some x->∃y,gs[j]?=some y/\(At P (w.at d) t j y (ρ j)->x=y)) :
  Co P fK w0 Pd (cO ρ i ρ') m wl gs' (w.at d) t:=by
 have key:∀{α:Type}(f:eG->α),f ρ'=f _->∀j,f (cO ρ i ρ' j)=f (ρ j):=λf hf j=>by
  by_cases e:j=i;subst e;rw[cM];exact hf;rw[cN _ _ e]
 have hrel:∀j y,0<j->gs[j]?=some y->At P (w.at d) t j y (ρ j):=by
  intro j y Y hy;have:=(h.at_ j y Y hy).rely (w₁:=w.at d) (u:=#[]) (λ_ _ _ _ _=>rfl) (λ_ _=>rfl) (db _) rfl (by simp);simpa using this
 refine⟨h.main.at d,λj x ab hx=>?_,λj Y=>?_,λj m' U=>h.d0 j m' (by rw[<-key _ hr];exact U),λj k m1 m2 W h1 h2=>h.dd j k m1 m2 W (by rw[<-key _ hr];exact h1) (by rw[<-key _ hr];exact h2),λj k J1 J2 W h1 h2=>h.cc j k J1 J2 W (by rw[<-key _ O];exact h1) (by rw[<-key _ O];exact h2),h.s0,λj m' U=>h.ss j m' (by rw[<-key _ hl];exact U),λj J hJ=>h.LI j J (by rw[<-key _ hc];exact hJ),h.low,h.hears,h.kQ.mono λj Y=>by rw[key _ hs];exact Y,h.clean,h.fix,h.f0,λj m' U=>h.ff j m' (by rw[<-key _ hr];exact U),λj J hJ=>h.cx j J (by rw[<-key _ O];exact hJ),h.sz,h.os,h.kn.same (key _ hr),h.pd.same (key _ O) rfl,h.len.same (key _ O)⟩;by_cases e:j=i;subst e;rw[ad]at hx;cases hx;rw[cM];exact aa;rw[cN _ _ e];obtain⟨y,hy,af⟩:=ae j x ab e hx;have:=hrel j y ab hy;rw[af this];exact this;rw[cN _ _ (by rcases Y with x|x<;>omega)];exact h.out j (by rw[<-ac];exact Y)
end
end
section
open Go.Conc
open Go.ConcN (upd upd_same upd_ne)
inductive iN(P:Program):eG->eG->Prop
 |quit {q}:iN P (.quit q) (.quit (q+1))|ended {h J m S q}:iN P (.ended h J m S q) (.ended h J m S (q+1))|close {J m S n m' S' q}:iN P (.ended false J m' S' q) (.act J m S n)|act {J m S n m' S' n'}:nD P J.Stop S' S->iN P (.act J m' S' n') (.act J m S n)|j0 {J m S n m' S' n' v}:nD P J.Stop S' S->iN P (.j0 J m' S' n' v) (.act J m S n)|start {J m S k}:iN P (.start J m S k) (.start J m S (k+1))|go {J m S k}:iN P (.act J m S 0) (.start J m S k)
section
variable {P:Program}
def FL(q:Nat):Acc (iN P) (.quit q):=by
 induction q with
 |zero=>exact .intro _ λy h=>by cases h
 |succ q O=>exact .intro _ λy h=>by cases h;exact O
def BG(O:Bool)(J:mW)(m:Ren)(S:LS)(q:Nat):Acc (iN P) (.ended O J m S q):=by
 induction q with
 |zero=>exact .intro _ λy h=>by cases h
 |succ q U=>exact .intro _ λy h=>by cases h;exact U
def EG(J:mW)(m:Ren)(S:LS)(n:Nat)(v:Value):Acc (iN P) (.j0 J m S n v):=.intro _ λy h=>by cases h
def Ec{J:mW}{S:LS}(h:Acc (nD P J.Stop) S):∀(m:Ren)(n:Nat),Acc (iN P) (.act J m S n):=by
 induction h with
 |intro S _ U=>
  intro m n;refine .intro _ λy W=>?_
  cases W with
  |close=>exact BG ..|act O=>exact U _ O ..|j0 O=>exact EG ..
def M3{J:mW}{S:LS}(h:Acc (nD P J.Stop) S)(m:Ren)(k:Nat):Acc (iN P) (.start J m S k):=by
 induction k with
 |zero=>exact .intro _ λy O=>by cases O;exact Ec h ..
 |succ k U=>
  refine .intro _ λy O=>?_
  cases O with
  |start=>exact U|go=>exact Ec h ..
def rL.UU{J:mW}{m:Ren}{S:LS}:∀{k:Nat}{g:Goroutine},rL P J m S k g->∀{w:World},WR m S.w w->vv P S
 |0,_,h,w,O=>by
  obtain⟨fr,cs,d,es,_,_,U⟩:=h.2 w O
  exact⟨_,_,_,_,_,_,_,U⟩
 |k+1,_,h,w,O=>by
  obtain⟨g',d,es,_,_,U⟩:=h.2 w O;exact U.UU O
def At.acc{w:World}{t:bB}{i:Nat}{g:Goroutine}{ρ:eG}(h:At P w t i g ρ):Acc (iN P) ρ:=by
 cases ρ with
 |quit q=>exact FL q|ended hd J m S q=>exact BG ..|act J m S n=>
  obtain⟨O,_,U⟩:=h;obtain⟨fr,cs,_,W⟩:=U.sU;exact Ec (U.ob.acc O.blind ⟨_,_,_,_,_,_,_,W⟩) ..
 |j0 J m S n v=>exact EG ..|start J m S k=>
  obtain⟨O,_,_,Y,_,h6,h7⟩:=h;exact M3 (Y.acc O.blind (h7.UU h6)) ..
end
section
variable {P:Program} {fK:Nat->Prop} {w0:World} {Pd:Nat->Prop} {ρ:Nat->eG} {m:Ren} {wl:World} {gs gs':Array Goroutine} {w w₁:World} {t:bB}
def Co.acc(h:Co P fK w0 Pd ρ m wl gs w t):Acc (JS (iN P) gs.size) ρ:=by
 refine OP _ _ λi hi=>?_;by_cases e:i=0;rw[h.out i (.inl e)];exact FL 0;exact(h.at_ i _ (by omega) (bp hi)).acc
def LH(i:Nat)(fn:bA)(pos:String)(c:Nat):dk i fn pos #[⟨.obj c,false,true⟩,⟨.obj c,true,true⟩]=#[{g:=i,fn,pos,act:=.access ⟨.obj c,false,true⟩},{g:=i,fn,pos,act:=.close c}]:=by
 rw[cg];simp[gc]
def Co.close{i:Nat}{g':Goroutine}{J:mW}{mi:Ren}{S:LS}{n s r:Nat}{fn:bA}{pos:String}(h:Co P fK w0 Pd ρ m wl gs w t)(hi:0<i)(aq:i<gs.size)(ac:ρ i=.act J mi S n)(ar:J.Stop S)(hn:n=J.L.length)(ao:WR mi S.w w)(hc:w.heap[J.c]?=some (.chan 0 #[] false s r false))(au:Lv P 2 g')
  (ag:w₁={w with heap:=w.heap.setIfInBounds J.c (.chan 0 #[] true s r false)}) (av:gs'.size=gs.size) (aw:gs'[i]?=some g')
  (ap:∀j x,0<j->j≠i->gs'[j]?=some x->∃y,gs[j]?=some y/\(At P w₁ (t++dk i fn pos #[⟨.obj J.c,false,true⟩,⟨.obj J.c,true,true⟩]) j y (ρ j)->x=y)) :
  Co P fK w0 Pd (cO ρ i (.ended false J mi S 2)) m wl gs' w₁ (t++dk i fn pos #[⟨.obj J.c,false,true⟩,⟨.obj J.c,true,true⟩]):=by
 subst ag;have ae:J.c<w.heap.size:=jY hc;have U:w.heap.size<=(w.heap.setIfInBounds J.c (.chan 0 #[] true s r false)).size:=by simp
 have ah:∃a b x s y t,w.heap[J.c]?=some (.chan a b x s y t):=⟨_,_,_,_,_,_,hc⟩
 have key:∀{α:Type}(f:eG->α),f (.ended false J mi S 2)=f (ρ i)->∀j,f (cO ρ i (.ended false J mi S 2) j)=f (ρ j):=λf hf j=>by
  by_cases e:j=i;subst e;rw[cM];exact hf;rw[cN _ _ e]
 have kr:=key eG.nj (by rw[ac];rfl);have kj:=key eG.sY (by rw[ac];rfl);have ks:=key eG.sum (by rw[ac,hn];rfl);have ad:(ρ i).sY=some J:=by rw[ac];rfl
 have ax:(ρ i).chan=some J:=by rw[ac];rfl
 have kl:∀j m',(cO ρ i (.ended false J mi S 2) j).live=some m'->j≠i/\(ρ j).live=some m':=λj m' hx=>by
  by_cases e:j=i;subst e;rw[cM]at hx;cases hx;rw[cN _ _ e]at hx;exact⟨e,hx⟩
 have kc:∀j J',(cO ρ i (.ended false J mi S 2) j).chan=some J'->j≠i/\(ρ j).chan=some J':=λj J' hx=>by
  by_cases e:j=i;subst e;rw[cM]at hx;cases hx;rw[cN _ _ e]at hx;exact⟨e,hx⟩
 have aa:=LH i fn pos J.c;generalize hu:dk i fn pos #[⟨.obj J.c,false,true⟩,⟨.obj J.c,true,true⟩]=u at aa ap⊢;have ai:∀op∈u,op.g=i:=by rw[<-hu];exact λop O=>ofEvents_g O
 have Y:∀op∈u,∀a,op.act.touch?=some a->a=⟨.obj J.c,false,.atomic⟩:=by
  intro op O a ha;rw[aa]at O;simp only[cT,cP,cQ,or_false]at O;rcases O with rfl|rfl
  simp only[gd,dq]at ha;exact ha.symm
  cases ha
 have af:∀j m' wl',nO t j m'->WR m' wl' w->nO (t++u) j m':=by
  intro j m' wl' hs hw p a b rr ha hb hr ay;rcases eh ha with⟨_,h1⟩|⟨op,h1,_,h3⟩
  exact(hs p a b rr h1 hb hr ay).app u;have:=Y op h1 a h3;subst this;cases hb;exact absurd hr (hw.yG ⟨s,r,hc⟩)
 refine⟨h.main.rely (kZ h.main ah) U rfl,λj x aj hx=>?_,λj hj=>?_,λj m' W=>h.d0 j m' (by rw[<-kr];exact W),λj k m1 m2 ak h1 h2=>h.dd j k m1 m2 ak (by rw[<-kr];exact h1) (by rw[<-kr];exact h2),λj k J1 J2 ak h1 h2=>h.cc j k J1 J2 ak (by rw[<-kj];exact h1) (by rw[<-kj];exact h2),af 0 m wl h.s0 h.main,λj m' W=>?_,λj J' ab p a ha hb=>?_,λp a b ha hb=>?_,h.hears.append λop O=>?_,?_,λsaid=>?_,λb hb=>?_,h.f0,λj m' W=>h.ff j m' (by rw[<-kr];exact W),λj J' ab=>h.cx j J' (by rw[<-kj];exact ab),dc h.sz U,h.os,h.kn.app (λj m' r b W hb=>⟨j,m',r,by rw[kr];exact W,hb⟩) (λop O a b ha hb az=>?_),h.pd.app kj (λc al _=>a4 ((h.pd c al).2.2.1 i J ad)) (λop O a c ha al _ hb=>?_),h.len.same kj⟩;by_cases e:j=i;subst e;rw[aw]at hx;cases hx;rw[cM];have am:=h.at_ j gs[j] aj (bp aq);rw[ac]at am;refine⟨au,am.2.2.nj,⟨ar,am.1⟩,ao.rely (kZ ao ah) U rfl,⟨s,r,by simp[ae]⟩,t.size+1,{g:=j,fn,pos,act:=.close J.c},by rw[aa];simp,rfl,rfl,λp a op ha O hg=>?_⟩;have:p<(t++u).size:=cu O;rw[aa]at this;simp at this;omega;rw[cN _ _ e];obtain⟨y,hy,a5⟩:=ap j x aj e hx
 have:At P {w with heap:=w.heap.setIfInBounds J.c (.chan 0 #[] true s r false)} (t++u) j y (ρ j):=by
  refine(h.at_ j y aj hy).rely (λm' W=>?_) (λJ' ab=>?_) U rfl λop O hg=>absurd (ai op O) (by rw[hg];exact e);obtain⟨wl',an⟩:=h.wr W;exact kZ an ah;exact a4 (h.cc i j J J' (gt e) ad ab)
 rw[a5 this];exact this;rw[cN _ _ (by rcases hj with x|x<;>omega)];exact h.out j (by rw[<-av];exact hj);obtain⟨e,W⟩:=kl j m' W;obtain⟨wl',an⟩:=h.wr (eG.nG W);exact af j m' wl' (h.ss j m' W) an;obtain⟨e,ab⟩:=kc j J' ab;rcases eh ha with⟨_,h1⟩|⟨op,h1,_,h3⟩
 exact h.LI j J' ab p a h1 hb;have:=Y op h1 a h3;subst this;simp only[lR,dq]at hb;exact h.cc i j J J' (gt e) ad (eG.u9 ab) hb;rcases eh ha with⟨_,h1⟩|⟨op,h1,_,h3⟩
 exact da (h.low p a b h1 hb) U;have:=Y op h1 a h3;subst this;simp only[lR,dq]at hb;subst hb;exact da ae U;rw[aa]at O;simp only[cT,cP,cQ,or_false]at O;rcases O with rfl|rfl<;>simp
 refine(h.kQ.mono λj hj=>by rw[ks];exact hj).app λop O=>.inr (.inr ?_);rw[ai op O,ks,ac];simp[eG.sum];refine cn (h.clean said) ai λq a ha op O b hb a6=>?_;have:=Y op O b hb;subst this;exact absurd (by rw[a6.1];rfl) (h.LI i J ax q a ha);obtain⟨h1,h2⟩:=h.fix b hb;refine⟨da h1 U,?_⟩;rw[<-h2];exact a4 (by rintro rfl;exact h.cx i J ad hb);have:=Y op O a ha;subst this;cases hb;exact absurd az (h.cx i J ad);have:=Y op O a ha;subst this;simp only[lR,dq]at hb;exact(h.pd c al).2.2.1 i J ad hb
end
end
section
open Go.Conc
open Go.ConcN (upd upd_same upd_ne)
variable {a g:Goroutine} {r:eG} {u:bB}
section
variable {P:Program} {fK:Nat->Prop} {w0:World} {Pd:Nat->Prop} {ρ:Nat->eG} {m:Ren} {wl:World} {gs gs':Array Goroutine} {w w₁:World} {t:bB} {sl:Option (Nat×Nat)}
def At.offers{i:Nat}{ρ:eG}(h:At P w t i g ρ)(c:Nat):cf g c false=[]:=by
 cases ρ with
 |quit q=>exact bX (by rcases Lv.status h with x|x<;>rw[x]<;>simp) ..|ended O J m S q=>exact bX (by rcases h.1.status with x|x<;>rw[x]<;>simp) ..|act J m S n=>
  obtain⟨_,_,h⟩:=h;obtain⟨fr,cs,rfl,_⟩:=h.sU;exact bX (by simp[G]) ..
 |j0 J m S n v=>
  obtain⟨_,_,g0,z,rfl,_⟩:=h;exact offersAt_parked_send' ..
 |start J m S k=>exact bX (by rw[h.2.2.2.2.2.2.status];simp) ..
def sH{n i:Nat}(hi:i<n)(h:iN P r (ρ i)):JS (iN P) n (cO ρ i r) ρ:=⟨i,hi,by rw[cM];exact h,λj O=>cN _ _ O⟩
def rZ{i:Nat}(h:r.sum=(ρ i).sum)(j:Nat):(cO ρ i r j).sum=(ρ j).sum:=by
 by_cases e:j=i;subst e;rw[cM];exact h;rw[cN _ _ e]
def pZ{i:Nat}{g':Goroutine}(w₁:World):∀j x,0<j->j≠i->((gs.map (woken P g g' w₁)).setIfInBounds i g')[j]?=some x->∃y,gs[j]?=some y/\(At P w₁ u j y (ρ j)->x=y):=by
 intro j x _ O U;rw[a4 (gt O),bx]at U;obtain⟨y,W,rfl⟩:=cJ.1 U;exact⟨y,W,λh=>h.woken g g'⟩
def zC{i:Nat}{g':Goroutine}(w₁:World):∀j x,0<j->j≠i->(gs.setIfInBounds i g')[j]?=some x->∃y,gs[j]?=some y/\(At P w₁ u j y (ρ j)->x=y):=by
 intro j x _ O U;rw[a4 (gt O)]at U;exact⟨x,U,λ_=>rfl⟩
def KD{i:Nat}{g':Goroutine}(hi:0<i)(O:gs[0]?=some a):((gs.map (woken P g g' w₁)).setIfInBounds i g')[0]?=some (woken P g g' w₁ a):=by
 rw[a4 (by omega),bx,O];rfl
def Oj(g g' a:Goroutine)(w:World):woken P g g' w a=a\/woken P g g' w a=a.again w:=by
 unfold woken;split;exact .inr rfl;exact .inl rfl
def Co.other{i:Nat}(h:Co P fK w0 Pd ρ m wl gs w t)(hi:0<i)(hg:gs[i]?=some g)(ad:g.status=.running)(h0:gs[0]?=some a)(an:∀J mi S n g₁ cs w₁ es,ρ i=.act J mi S n->b7 P false g w=.comm g₁ cs true .send w₁ es->cf a J.c false=[]) :
  ∃gs' w' ops ρ',bT P (cb gs w sl) i=(.next (cb gs' w' sl),ops)/\Co P fK w0 Pd ρ' m wl gs' w' (t++ops)/\JS (iN P) gs.size ρ' ρ/\(∀j,(ρ' j).sum=(ρ j).sum)/\gs'.size=gs.size/\((gs'[0]?=some a/\∀j,(ρ' j).chan=(ρ j).chan)\/gs'[0]?=some (a.again w'))/\(∀J mi S n v,ρ' i=.j0 J mi S n v->cf a J.c false=[])/\(∀j,j≠i->ρ' j=ρ j):=by
 have U:i<gs.size:=(bo.1 hg).1;have ae:(i==0)=false:=by simp;omega
 have Y:=h.at_ i g hi hg
 have lv:∀q,Lv P q g->∃q' g',q=q'+1/\(∀w,b7 P false g w=.go g' w #[])/\Lv P q' g':=by
  intro q hq
  cases q with
  |zero=>rw[show g.status=.finished from hq]at ad;cases ad
  |succ q=>
   rcases hq with x|⟨_,g',x,y⟩
   rw[x]at ad;cases ad;exact⟨q,g',rfl,x,y⟩
 have aw:w.at w.drawn=w:=rfl
 have ac:∀r:eG,r.chan=(ρ i).chan->∀j,(cO ρ i r j).chan=(ρ j).chan:=λr hr j=>by
  by_cases e:j=i;subst e;rw[cM];exact hr;rw[cN _ _ e]
 have zero:∀(g':Goroutine)(w₁:World)(r:eG),r.chan=(ρ i).chan->((((gs.map (woken P g g' w₁)).setIfInBounds i g')[0]?=some a/\∀j,(cO ρ i r j).chan=(ρ j).chan)\/((gs.map (woken P g g' w₁)).setIfInBounds i g')[0]?=some (a.again w₁)):=by
  intro g' w₁ r hr;rw[KD hi h0];rcases Oj (P:=P) g g' a w₁ with x|x
  exact .inl ⟨by rw[x],ac r hr⟩;exact .inr (by rw[x])
 cases O:ρ i with
 |quit q=>
  rw[O]at Y;obtain⟨q',g',rfl,hs,hq⟩:=lv q Y;have W:=bY (P:=P) (sl:=sl) (i:=i) hg (by rw[ae];exact hs w);have e0:dk i g.frame.fn g.frame.place #[]=#[]:=by rw[cg];simp
  rw[e0]at W;refine⟨_,w,_,cO ρ i (.quit q'),W,?_,sH U (by rw[O];exact .quit),rZ (by rw[O];rfl),by simp,zero g' w _ (by rw[O];rfl),λ_ _ _ _ _ x=>(by rw[cM]at x;cases x),λj hj=>cN _ _ hj⟩;rw[b4];exact h.SX (gs':=(gs.map (woken P g g' w)).setIfInBounds i g') w.drawn hi U (ρ':=.quit q') (g':=g') hq (by rw[O];rfl) (by rw[O];rfl) (by rw[O];rfl) (by rw[O];rfl) (by rw[O];rfl) (by simp) (by simp[U]) (pZ (w.at w.drawn))
 |ended hd J mi S q=>
  rw[O]at Y;obtain⟨q',g',rfl,hs,hq⟩:=lv q Y.1;have W:=bY (P:=P) (sl:=sl) (i:=i) hg (by rw[ae];exact hs w);have e0:dk i g.frame.fn g.frame.place #[]=#[]:=by rw[cg];simp
  rw[e0]at W;refine⟨_,w,_,cO ρ i (.ended hd J mi S q'),W,?_,sH U (by rw[O];exact .ended),rZ (by rw[O];cases hd<;>rfl),by simp,zero g' w _ (by rw[O];rfl),λ_ _ _ _ _ x=>(by rw[cM]at x;cases x),λj hj=>cN _ _ hj⟩;rw[b4];exact h.SX (gs':=(gs.map (woken P g g' w)).setIfInBounds i g') w.drawn hi U (ρ':=.ended hd J mi S q') (g':=g') ⟨hq,Y.2⟩ (by rw[O];rfl) (by rw[O];rfl) (by rw[O];rfl) (by rw[O];rfl) (by rw[O];cases hd<;>rfl) (by simp) (by simp[U]) (pZ (w.at w.drawn))
 |j0 J mi S n v=>
  rw[O]at Y;obtain⟨_,_,g0,z,rfl,_⟩:=Y;cases ad
 |start J mi S k=>
  rw[O]at Y;obtain⟨h1,h2,h3,h4,h5,h6,h7⟩:=Y;have aa:(ρ i).live=some mi:=by rw[O];rfl
  have step:∀g' d es(r:eG),b7 P false g w=.go g' (w.at d) es->(∀e∈es,py mi e)->At P (w.at d) (t++dk i g.frame.fn g.frame.place es) i g' r->r.live=some mi->r.sY=some J->r.chan=some J->r.sum=some (J,0)->iN P r (.start J mi S k)->
    ∃gs' w' ops ρ',bT P (cb gs w sl) i=(.next (cb gs' w' sl),ops)/\Co P fK w0 Pd ρ' m wl gs' w' (t++ops)/\JS (iN P) gs.size ρ' ρ/\(∀j,(ρ' j).sum=(ρ j).sum)/\gs'.size=gs.size/\((gs'[0]?=some a/\∀j,(ρ' j).chan=(ρ j).chan)\/gs'[0]?=some (a.again w'))/\(∀J mi S n v,ρ' i=.j0 J mi S n v->cf a J.c false=[])/\(∀j,j≠i->ρ' j=ρ j):=by
   intro g' d es r hs he hr e1 e2 e3 e4 aj;have W:=bY (P:=P) (sl:=sl) (i:=i) hg (by rw[ae];exact hs);exact⟨_,_,_,cO ρ i r,W,h.step (gs':=(gs.map (woken P g g' (w.at d))).setIfInBounds i g') hi U aa (Ren.Le.refl mi) (fI.at mi w d) he (h6.at d) hr e1 (by rw[O];exact e2) (by rw[O];exact e3) (by rw[O];exact e4) (by simp) (by simp[U]) (pZ _),sH U (by rw[O];exact aj),rZ (by rw[O];exact e4),by simp,zero g' _ r (by rw[O];exact e3),λ_ _ _ _ _ x=>(by rw[cM]at x;subst x;cases aj),λj hj=>cN _ _ hj⟩
  cases k with
  |zero=>
   obtain⟨fr,cs,d,es,hs,he,ab⟩:=h7.2 w h6;exact step _ d es (.act J mi S 0) hs he ⟨h1,h2,h3,h4,⟨fr,cs,rfl,ab⟩,[],h5,rfl⟩ rfl rfl rfl rfl .go
  |succ k=>
   obtain⟨g',d,es,hs,he,af⟩:=h7.2 w h6;exact step g' d es (.start J mi S k) hs he ⟨h1,h2,h3,h4,h5,h6.at d,af⟩ rfl rfl rfl rfl .start
 |act J mi S n=>
  rw[O]at Y;obtain⟨h1,⟨s,r,hc⟩,h3⟩:=Y;have aa:(ρ i).live=some mi:=by rw[O];rfl
  obtain⟨ax,ao⟩:=h.wr (eG.nG aa);by_cases af:J.Stop S;obtain⟨hn,fr,ps,a',ty,cs,rfl,hm,hd,hq,ar⟩:=h3.stands h1 af;obtain⟨fr',cs',e,ab⟩:=h3.sU;have hs:=closing (P:=P) (ps:=ps) (w:=w) hm hd hq hc;have W:=bY (P:=P) (sl:=sl) (i:=i) hg (by rw[ae];exact hs)
  have au:∀o,woken P (G fr [ps]) (G {fr with defers:=[]} [ps]) {w with heap:=w.heap.setIfInBounds J.c (.chan 0 #[] true s r false)} o=o.again {w with heap:=w.heap.setIfInBounds J.c (.chan 0 #[] true s r false)}:=by
   intro o;unfold woken;rw[if_pos];simp[mayWake,G,hm]
  refine⟨_,_,_,cO ρ i (.ended false J mi S 2),W,?_,sH U (by rw[O];exact .close),rZ (by rw[O,hn];rfl),by simp,.inr ?_,λ_ _ _ _ _ x=>(by rw[cM]at x;cases x),λj hj=>cN _ _ hj⟩;exact h.close (gs':=(gs.map (woken P (G fr [ps]) (G {fr with defers:=[]} [ps]) {w with heap:=w.heap.setIfInBounds J.c (.chan 0 #[] true s r false)})).setIfInBounds i (G {fr with defers:=[]} [ps])) hi U O af hn ab.world hc ar rfl (by simp) (by simp[U]) (pZ _);rw[KD hi h0,au];have ap:=h3.Cl h1 af;generalize ai:b7 P false g w=sg at ap
  cases ap with
  |@go S' dz g₁ w₁ es al am ak hk he=>
   have W:=bY (P:=P) (sl:=sl) (i:=i) hg (by rw[ae];exact ai);obtain⟨fr',cs',e,ab⟩:=ak.sU;exact⟨_,_,_,cO ρ i (.act J dz S' n),W,h.step (gs':=(gs.map (woken P g g₁ w₁)).setIfInBounds i g₁) hi U aa am hk he ab.world ⟨h1,⟨s,r,hk.chan ao hc⟩,ak⟩ rfl (by rw[O];rfl) (by rw[O];rfl) (by rw[O];rfl) (by simp) (by simp[U]) (pZ _),sH U (by rw[O];exact .act al),rZ (by rw[O];rfl),by simp,zero g₁ _ _ (by rw[O];rfl),λ_ _ _ _ _ x=>(by rw[cM]at x;cases x),λj hj=>cN _ _ hj⟩
  |@send S' dz g₁ w₁ es v' z' al am ag hk he=>
   have ah:=hk.chan ao hc
   have hp:bK (gs.setIfInBounds i ph) J.c false=[]:=by
    refine cB λj x hx=>?_;rcases ci gs i j x hx with⟨_,rfl⟩|⟨ay,hx⟩
    exact cm _ _;by_cases hj:j=0;subst hj;rw[h0]at hx;cases hx;exact an J mi S n _ _ _ _ O ai;exact(h.at_ j x (by omega) hx).offers J.c
   have W:=cD (P:=P) (sl:=sl) (i:=i) hg (by rw[ae];exact ai) (by
    intro cc aq;simp only[cT,cP,cQ,or_false]at aq;subst aq
    exact ways_send_none ah (by simp) hp)
   obtain⟨v0,fr',cs',e,ab⟩:=ag.sU;obtain⟨f0,az,_,_,_,_,_,_,_,av,_⟩:=ab.sU;refine⟨_,_,_,cO ρ i (.j0 J dz S' n v'),W,h.step (gs':=gs.setIfInBounds i _) hi U aa am hk he av ⟨h1,⟨s,r,ah⟩,g₁,z',rfl,ag⟩ rfl (by rw[O];rfl) (by rw[O];rfl) (by rw[O];rfl) (by simp) (by simp[U]) (zC _),sH U (by rw[O];exact .j0 al),rZ (by rw[O];rfl),by simp,.inl ⟨?_,ac _ (by rw[O];rfl)⟩,λ_ _ _ _ _ x=>(by rw[cM]at x;cases x;exact an J mi S n _ _ _ _ O ai),λj hj=>cN _ _ hj⟩;rw[a4 (by omega)];exact h0
end
end
section
open Go.Conc
open Go.ConcN (upd upd_same upd_ne)
variable {a:Goroutine} {J:mW} {S:LS} {mi:Ren}
structure jj(P:Program) where
 Up:Machine->bB->Prop
 Fin:Machine->Stepped×Array MemOp->bB->Prop
 back:∀M t,Fin M (bS P M) t->Up M t
 next:∀M M' ops t,Up M' (t++ops)->Fin M (.next M',ops) t
def rW{u:List MemOp}(U:∀op∈u,op.act.touch?=none):∀{t:bB}{said:Bool},¬bV said t->¬bV said (t++u.toArray):=by
 induction u with
 |nil=>simpa using h|cons x u W=>
  intro t said h;have:t++(x::u).toArray=(t++#[x])++u.toArray:=by simp
  rw[this];refine W (λop O=>U op (by simp[O])) ?_;refine cn (g:=x.g) h (λop O=>by simp at O;rw[O]) λi a _ op O b hb _=>?_;simp at O;subst O;rw[U op (by simp)]at hb;cases hb
section
variable {P:Program} {fK:Nat->Prop} {w0:World} {Pd:Nat->Prop} {ρ:Nat->eG} {m:Ren} {wl:World} {gs gs':Array Goroutine} {w w₁:World} {t:bB} {sl:Option (Nat×Nat)}
def Co.at(h:Co P fK w0 Pd ρ m wl gs w t)(d:Nat):Co P fK w0 Pd ρ m wl gs (w.at d) t:=by
 refine⟨h.main.at d,λi g hi O=>?_,h.out,h.d0,h.dd,h.cc,h.s0,h.ss,h.LI,h.low,h.hears,h.kQ,h.clean,h.fix,h.f0,h.ff,h.cx,h.sz,h.os,h.kn,h.pd.same (λ_=>rfl) rfl,h.len⟩;have:=(h.at_ i g hi O).rely (w₁:=w.at d) (u:=#[]) (λ_ _ _ _ _=>rfl) (λ_ _=>rfl) (db _) rfl (by simp);simpa using this
def Co.awake(h:Co P fK w0 Pd ρ m wl gs w t)(U:gs[0]?=some a)(W:a.status=.running\/a.status=.blocked\/a.status=.finished):∀g∈gs,cF g:=by
 intro g Y;obtain⟨i,hi,rfl⟩:=br.1 Y;rcases de i with rfl|O
 have:=by simpa[bp hi]using U
 rw[this];exact awake_of W;exact awake_of (h.at_ i _ O (bp hi)).status
def turn{Z:jj P}{K:Nat->Option (mW×Nat)}{N:Nat}(O:a.status=.running)
  (hm:∀ρ gs w sl U d t,Co P fK w0 Pd ρ m wl gs (w.at d) t->(∀j,(ρ j).sum=K j)->gs[0]?=some a->gs.size=N->Z.Fin (cb gs w sl) (bT P (cb gs (w.at d) U) 0) t) :
  ∀ρ gs w sl t,Co P fK w0 Pd ρ m wl gs w t->(∀j,(ρ j).sum=K j)->gs[0]?=some a->gs.size=N->Z.Up (cb gs w sl) t:=by
 intro ρ gs w sl t h hK Y hN;have W:=h.acc;rw[hN]at W;revert hK gs w sl t;induction W with
 |intro ρ _ ih=>
  intro gs w sl t h hK Y hN;obtain⟨i,g,d,U,hi,hg,ac⟩:=cv (P:=P) (w:=w) (sl:=sl) (h.awake Y (.inl O)) ⟨0,a,Y,O⟩;refine Z.back _ _ ?_;rw[ac];rcases de i with rfl|aa
  exact hm ρ gs w sl U d t (h.at d) hK Y hN;obtain⟨gs',w',ops,ρ',hr,ad,ae,ab,af,hz,_,_⟩:=(h.at d).other (sl:=U) aa hi hg Y λJ mi S n _ _ _ _ _ _=>bX (by rw[O];simp) ..;rw[hr];refine Z.next _ _ _ _ (ih ρ' (hN▸ae) gs' w' U _ ad (λj=>(ab j).trans (hK j)) ?_ (af.trans hN));rcases hz with⟨x,_⟩|x
  exact x;rw[x,c8 _ (.inl O)]
def Co.Ur{i:Nat}{g₁:Goroutine}{n s r s' r':Nat}{v z:Value}{u:List MemOp}(h:Co P fK w0 Pd ρ m wl gs w t)(hi:0<i)(ad:ρ i=.j0 J mi S n v)(al:gs[i]?=some (parked g₁ #[ck J.c v z] .send))(hc:w.heap[J.c]?=some (.chan 0 #[] false s r false))
  (ah:w₁={w with heap:=w.heap.setIfInBounds J.c (.chan 0 #[] false s' r' false)}) (hu:∀op∈u,op.act.touch?=none) (au:∀op∈u,op.act≠.mark .disable/\op.act≠.mark .enable)
  (av:gs'.size=gs.size) (am:gs'[i]?=some (bZ g₁ hQ)) (aw:∀j,0<j->j≠i->gs'[j]?=gs[j]?) :
  ∃ab,Co P fK w0 Pd (cO ρ i (.act J ab S (n+1))) m wl gs' w₁ (t++u.toArray):=by
 subst ah;have a7:i<gs.size:=(bo.1 al).1;have an:J.c<w.heap.size:=jY hc;have W:w.heap.size<=(w.heap.setIfInBounds J.c (.chan 0 #[] false s' r' false)).size:=by simp
 have ai:∃a b x s y t,w.heap[J.c]?=some (.chan a b x s y t):=⟨_,_,_,_,_,_,hc⟩;have ao:=h.at_ i _ hi al;rw[ad]at ao;obtain⟨ax,_,g0,z0,eg,ap⟩:=ao
 have e0:g0=g₁\/bZ g0 hQ=bZ g₁ hQ:=by
  obtain⟨v0,fr',cs',e',_⟩:=ap.sU;subst e';refine .inr ?_;have:=congrArg (λg:Goroutine=>bZ g hQ) eg;exact this.symm
 have af:bZ g0 hQ=bZ g₁ hQ:=e0.elim (λe=>by rw[e]) id;obtain⟨ab,a8,hb,hl,ac⟩:=ap.done;have aj:(ρ i).sY=some J:=by rw[ad];rfl
 have aq:(ρ i).nj=some mi:=by rw[ad];rfl
 refine⟨ab,?_⟩
 have kj:∀j,(cO ρ i (.act J ab S (n+1)) j).sY=(ρ j).sY:=λj=>by
  by_cases e:j=i;subst e;rw[cM,ad];rfl;rw[cN _ _ e]
 have kc:∀j,(cO ρ i (.act J ab S (n+1)) j).chan=(ρ j).chan:=λj=>by
  by_cases e:j=i;subst e;rw[cM,ad];rfl;rw[cN _ _ e]
 have kr:∀j m',(cO ρ i (.act J ab S (n+1)) j).nj=some m'->∃Y,(ρ j).nj=some Y/\m'.blk=Y.blk/\m'.loose=Y.loose:=λj m' hx=>by
  by_cases e:j=i;subst e;rw[cM]at hx;cases hx;exact⟨mi,aq,hb,hl⟩;rw[cN _ _ e]at hx;exact⟨m',hx,rfl,rfl⟩
 have kl:∀j m',(cO ρ i (.act J ab S (n+1)) j).live=some m'->∃Y,(ρ j).live=some Y/\m'.blk=Y.blk/\m'.loose=Y.loose:=λj m' hx=>by
  by_cases e:j=i;subst e;rw[cM]at hx;cases hx;exact⟨mi,by rw[ad];rfl,hb,hl⟩;rw[cN _ _ e]at hx;exact⟨m',hx,rfl,rfl⟩
 have U:∀op∈u.toArray,op∈u:=λop O=>by simpa using O
 refine⟨h.main.rely (kZ h.main ai) W rfl,λj x ar hx=>?_,λj hj=>?_,λj m' aa=>?_,λj k m1 m2 ak h1 h2=>?_,λj k J1 J2 ak h1 h2=>h.cc j k J1 J2 ak (by rw[<-kj];exact h1) (by rw[<-kj];exact h2),h.s0.mute λop O=>hu op (U op O),λj m' aa=>?_,λj J' ae p a ha hb=>?_,λp a b ha hb=>?_,h.hears.append λop O=>au op (U op O),?_,λsaid=>rW hu (h.clean said),λb hb=>?_,h.f0,λj m' aa r b hr hb=>?_,λj J' ae=>h.cx j J' (by rw[<-kj];exact ae),dc h.sz W,h.os,h.kn.app (λj m' r b aa hx=>?_) (λop O a b ha _ _=>by rw[hu op (U op O)]at ha;cases ha),h.pd.app kj (λc ay _=>a4 ((h.pd c ay).2.2.1 i J aj)) (λop O a c ha _ _=>by rw[hu op (U op O)]at ha;cases ha),h.len.same kj⟩;by_cases e:j=i;subst e;rw[am]at hx;cases hx;rw[cM,<-af];obtain⟨fr,cs,e,ag⟩:=ac.sU;exact⟨ax,⟨s',r',by simp[an]⟩,ac.nj,ac.ob,⟨fr,cs,e,ag.rely (kZ ag.world ai) W rfl⟩,ac.gN⟩;rw[cN _ _ e];rw[aw j ar e]at hx;refine(h.at_ j x ar hx).rely (λm' aa=>?_) (λJ' ae=>?_) W rfl λop O _=>hu op (U op O);obtain⟨wl',az⟩:=h.wr aa;exact kZ az ai;exact a4 (h.cc i j J J' (gt e) aj ae);rw[cN _ _ (by rintro rfl;rcases hj with x|x<;>omega)];exact h.out j (by rw[<-av];exact hj);obtain⟨Y,h1,h2,h3⟩:=kr j m' aa;have:=h.d0 j Y h1;unfold ol at this⊢;rw[h2,h3];exact this;obtain⟨a5,a1,a2,a3⟩:=kr j m1 h1;obtain⟨a6,b1,b2,b3⟩:=kr k m2 h2;have:=h.dd j k a5 a6 ak a1 b1;unfold ol at this⊢;rw[a2,a3,b2,b3];exact this;obtain⟨Y,h1,h2,h3⟩:=kl j m' aa;have:=(h.ss j Y h1).mute (u:=u.toArray) λop O=>hu op (U op O);unfold nO at this⊢;rw[h2,h3];exact this;rw[kc]at ae;rcases eh ha with⟨_,h1⟩|⟨op,h1,_,h3⟩
 exact h.LI j J' ae p a h1 hb;rw[hu op (U op h1)]at h3;cases h3;rcases eh ha with⟨_,h1⟩|⟨op,h1,_,h3⟩
 exact da (h.low p a b h1 hb) W;rw[hu op (U op h1)]at h3;cases h3;refine(h.kQ.mono λj hj=>?_).app λop O=>.inl (hu op (U op O));by_cases e:j=i;subst e;rw[cM];simp[eG.sum];rw[cN _ _ e];exact hj;obtain⟨h1,h2⟩:=h.fix b hb;refine⟨da h1 W,?_⟩;rw[<-h2];exact a4 (by rintro rfl;exact h.cx i J aj hb);obtain⟨Y,h1,h2,h3⟩:=kr j m' aa;rw[h2]at hr;rw[h3];exact h.ff j Y h1 r b hr hb;by_cases e:j=i;subst e;rw[aq]at aa;cases aa;exact⟨j,ab,r,by rw[cM];rfl,by rw[hb];exact hx⟩;exact⟨j,m',r,by rw[cN _ _ e];exact aa,hx⟩
def Co.hear{i:Nat}{q:Nat}{fn:bA}{pos:String}(h:Co P fK w0 Pd ρ m wl gs w t)(hi:0<i)(U:ρ i=.ended false J mi S q)(ae:gs'.size=gs.size)(af:∀j,0<j->gs'[j]?=gs[j]?) :
  Co P fK w0 Pd (cO ρ i (.ended true J mi S q)) m wl gs' w (t++#[{g:=0,fn,pos,act:=.recvClosed J.c}]):=by
 have hu:∀op∈(#[{g:=0,fn,pos,act:=.recvClosed J.c}]:Array MemOp),op.act.touch?=none:=by
  intro op O;simp at O;subst O;rfl
 have key:∀{α:Type}(f:eG->α),f (.ended true J mi S q)=f (ρ i)->∀j,f (cO ρ i (.ended true J mi S q) j)=f (ρ j):=λf hf j=>by
  by_cases e:j=i;subst e;rw[cM];exact hf;rw[cN _ _ e]
 have kr:=key eG.nj (by rw[U];rfl);have kj:=key eG.sY (by rw[U];rfl);have kl:=key eG.live (by rw[U];rfl);have kc:=key eG.chan (by rw[U];rfl);obtain⟨gi,_,ac,ag⟩:=h.get (i:=i) (by rw[U];simp);have ah:i<gs.size:=(bo.1 ac).1;rw[U]at ag
 have hh:l8 (t++#[{g:=0,fn,pos,act:=.recvClosed J.c}]):=h.hears.append λop O=>by
  simp at O;subst O;simp
 have hrel:=λj x hj hx=>(h.at_ j x hj hx).rely (λ_ _ _ _ _=>rfl) (λ_ _=>rfl) (db _) rfl λop O _=>hu op O
 refine⟨h.main,λj x ad hx=>?_,λj hj=>?_,λj m' W=>h.d0 j m' (by rw[<-kr];exact W),λj k m1 m2 ab Y h2=>h.dd j k m1 m2 ab (by rw[<-kr];exact Y) (by rw[<-kr];exact h2),λj k J1 J2 ab Y h2=>h.cc j k J1 J2 ab (by rw[<-kj];exact Y) (by rw[<-kj];exact h2),h.s0.mute hu,λj m' W=>(h.ss j m' (by rw[<-kl];exact W)).mute hu,λj J' aa p a ha hb=>?_,λp a b ha hb=>?_,hh,?_,λsaid=>by
  have:=rW (u:=[{g:=0,fn,pos,act:=.recvClosed _}]) (by simpa using hu) (h.clean said)
  simpa using this,h.fix,h.f0,λj m' W=>h.ff j m' (by rw[<-kr];exact W),λj J' aa=>h.cx j J' (by rw[<-kj];exact aa),h.sz,h.os,h.kn.app (λj m' r b W hx=>⟨j,m',r,by rw[kr];exact W,hx⟩) (λop O a b ha _ _=>by rw[hu op O]at ha;cases ha),h.pd.app kj (λ_ _ _=>rfl) (λop O a c ha _ _=>by rw[hu op O]at ha;cases ha),h.len.same kj⟩
 rw[af j ad]at hx;have:=hrel j x ad hx;by_cases e:j=i;subst e;rw[cM];rw[U]at this;exact this;rw[cN _ _ e];exact this;rw[cN _ _ (by rcases hj with x|x<;>omega)];exact h.out j (by rw[<-ae];exact hj);rw[kc]at aa;rcases eh ha with⟨_,Y⟩|⟨op,Y,_,h3⟩
 exact h.LI j J' aa p a Y hb;rw[hu op Y]at h3;cases h3;rcases eh ha with⟨_,Y⟩|⟨op,Y,_,h3⟩
 exact h.low p a b Y hb;rw[hu op Y]at h3;cases h3;obtain⟨_,_,_,_,_,pc,y,g1,g2,g3,g4⟩:=hrel i gi (by omega) ac |> λx=>by rw[U]at x;exact x
 have hj:=(h.kQ.app (u:=#[{g:=0,fn,pos,act:=.recvClosed _}]) λop O=>.inl (hu op O)).join hh (j:=i) (r:={g:=0,fn,pos,act:=.recvClosed _}) (pr:=t.size) g1 g2 g3 (by simp) rfl rfl g4;refine hj.mono λj hx=>?_;rw[cN _ _ hx.2];exact hx.1
end
end
section
open Go.Conc
open Go.ConcN (upd upd_same upd_ne)
variable {J:mW} {c n:Nat} {r:eG}
structure xo(P:Program)(a:Goroutine)(cases:Array CommCase)(chans:Nat->Option Nat)(K:Nat->Option (mW×Nat)):Prop where
 run:a.status=.running
 step:∀w,b7 P true a w=.comm a cases true .select w #[]
 U0:∀w,b7 P true {parked a cases .select with status:=.running} w=.comm a cases true .select w #[]
 cs:∀(k:Nat)cc,cases[k]?=some cc->∃z,cc=⟨.chan (chans k),none,z⟩
 V1:∀k k' c,k<cases.size->k'<cases.size->chans k=some c->chans k'=some c->k=k'
 own:∀k c,k<cases.size->chans k=some c->∃i J n,K i=some (J,n)/\J.c=c
 some_:∃k c,k<cases.size/\chans k=some c
 flat:∀i J n,K i=some (J,n)->∀v∈J.L,∀(m:Ren)v',VR m v v'->v'=v
section
variable {P:Program} {fK:Nat->Prop} {w0:World} {Pd:Nat->Prop} {ρ:Nat->eG} {m:Ren} {wl:World} {gs gs':Array Goroutine} {w w₁:World} {t:bB} {sl:Option (Nat×Nat)} {a:Goroutine} {cases:Array CommCase} {chans:Nat->Option Nat} {K:Nat->Option (mW×Nat)}
def xo.get(h:xo P a cases chans K){k:Nat}(O:k<cases.size):∃z,cases[k]?=some ⟨.chan (chans k),none,z⟩:=by
 obtain⟨z,U⟩:=h.cs k _ (bp O);exact⟨z,by rw[bp O,U]⟩
def xo.offers(h:xo P a cases chans K){k:Nat}(hk:k<cases.size)(hc:chans k=some c):cf (parked a cases .select) c false=[k]:=by
 obtain⟨z,hz⟩:=h.get hk
 have O:∀m:Nat,cases.zipIdx.toList[m]?=(cases[m]?).map λx=>(x,m):=by
  simp
 have:=filter_map_one (id:CommCase×Nat->CommCase×Nat) (λ(W,_)=>W.send.isSome==false&&(match W.chan with|.chan (some r')=>r'==c|_=>false)) _ k _ (by rw[O,hz];rfl) (by simp[hc]) (λm x hm U=>by
  rw[O]at U
  cases e:cases[m]? with
  |none=>rw[e]at U;cases U
  |some y=>
   rw[e]at U;simp only[cK,dq]at U;subst U;obtain⟨z',rfl⟩:=h.cs m y e;have Y:=(bo.1 e).1
   cases aa:chans m with
   |none=>simp|some W=>
    have:W≠c:=by
     rintro rfl;exact hm (h.V1 m k W Y hk aa hc)
    simp[this])
 simp only[List.map_id]at this;exact congrArg _ this
def xo.F7(h:xo P a cases chans K)(Y:∀k,k<cases.size->chans k≠some c):cf (parked a cases .select) c false=[]:=by
 have:(cases.zipIdx.toList.filter λ(O,_)=>O.send.isSome==false&&(match O.chan with|.chan (some r')=>r'==c|_=>false))=[]:=by
  rw[List.filter_eq_nil_iff];rintro⟨cc,k⟩ hm;have e:=by simpa using Array.mem_zipIdx_iff_getElem?.1 (bs.1 hm)
  obtain⟨z',rfl⟩:=h.cs k cc e;have U:=(bo.1 e).1
  cases W:chans k with
  |none=>simp|some O=>
   have:O≠c:=by
    rintro rfl;exact Y k U W
   simp[this]
 exact congrArg _ this
def At.Kz{i:Nat}{g:Goroutine}(h:At P w t i g r)(c:Nat):cf g c true=[]\/∃J m S n v,r=.j0 J m S n v/\J.c=c/\cf g c true=[0]:=by
 cases r with
 |quit q=>exact .inl (bX (by rcases Lv.status h with x|x<;>rw[x]<;>simp) ..)|ended O J m S q=>exact .inl (bX (by rcases h.1.status with x|x<;>rw[x]<;>simp) ..)|act J m S n=>
  obtain⟨_,_,h⟩:=h;obtain⟨fr,cs,rfl,_⟩:=h.sU;exact .inl (bX (by simp[G]) ..)
 |j0 J m S n v=>
  obtain⟨_,_,g0,z,rfl,_⟩:=h;rw[cq];by_cases e:J.c=c;exact .inr ⟨_,_,_,_,_,rfl,e,by rw[if_pos e]⟩;exact .inl (by rw[if_neg e])
 |start J m S k=>exact .inl (bX (by rw[h.2.2.2.2.2.2.status];simp) ..)
def eG.yl(h:r.sum=some (J,n)):r.sY=some J:=by
 cases r with
 |quit q=>cases h
 |ended O U m S q=>cases O<;>first|(cases h;rfl)|cases h
 |act=>cases h;rfl
 |j0=>cases h;rfl
 |start=>cases h;rfl
def Co.ways(h:Co P fK w0 Pd ρ m wl gs w t){i:Nat}(Y:(ρ i).sum=some (J,n))(z:Value) :
  (∃m S v,ρ i=.j0 J m S n v/\bG w (gs.setIfInBounds 0 ph) (ca J.c z)=[.partner i 0]/\gE w J.c false)\/(∃m S q,ρ i=.ended false J m S q/\n=J.L.length/\bG w (gs.setIfInBounds 0 ph) (ca J.c z)=[.closed]/\gE w J.c true)\/(((∃m S,ρ i=.act J m S n)\/∃m S k,ρ i=.start J m S k)/\bG w (gs.setIfInBounds 0 ph) (ca J.c z)=[]/\gE w J.c false):=by
 obtain⟨g,hi,hg,W⟩:=h.get (i:=i) λe=>by rw[e]at Y;cases Y
 have aa:=eG.yl Y
 have O:(∀m S n v,ρ i≠.j0 J m S n v)->bK (gs.setIfInBounds 0 ph) J.c true=[]:=by
  intro ad;refine cB λj x hx=>?_;rcases ci gs 0 j x hx with⟨_,rfl⟩|⟨hj,hx⟩
  exact cm ..;rcases(h.at_ j x (by omega) hx).Kz _ with e|⟨J',m',S',n',v',e,ec,_⟩
  exact e;by_cases ac:j=i;subst ac;rw[e]at aa;cases aa;exact absurd e (ad _ _ _ _);exact absurd ec.symm (h.cc i j J J' (gt ac) aa (by rw[e];rfl))
 cases U:ρ i with
 |quit q=>rw[U]at Y;cases Y
 |ended hd J' m' S q=>
  rw[U]at Y W
  cases hd with
  |true=>cases Y
  |false=>
   cases Y;obtain⟨_,_,_,_,⟨s,r,hc⟩,_⟩:=W;refine .inr (.inl ⟨m',S,q,rfl,rfl,?_,s,r,hc⟩);simp[bG,ca,hc,O (by rw[U];simp)]
 |act J' m' S n'=>
  rw[U]at Y W;cases Y;obtain⟨_,⟨s,r,hc⟩,_⟩:=W;refine .inr (.inr ⟨.inl ⟨m',S,rfl⟩,?_,s,r,hc⟩);simp[bG,ca,hc,O (by rw[U];simp)]
 |start J' m' S k=>
  rw[U]at Y W;cases Y;obtain⟨_,⟨s,r,hc⟩,_⟩:=W;refine .inr (.inr ⟨.inr ⟨m',S,k,rfl⟩,?_,s,r,hc⟩);simp[bG,ca,hc,O (by rw[U];simp)]
 |j0 J' m' S n' v=>
  rw[U]at Y;cases Y;have ab:=W;rw[U]at ab;obtain⟨_,⟨s,r,hc⟩,g0,z0,rfl,_⟩:=ab;refine .inl ⟨m',S,v,rfl,?_,s,r,hc⟩
  have hp:bK (gs.setIfInBounds 0 ph) J.c true=[(i,0)]:=by
   rw[cA (j:=i) (g:=parked g0 ..) (by rw[a4 (by omega)];exact hg) λj x hj hx=>?_];rw[cq,if_pos rfl];rfl;rcases ci gs 0 j x hx with⟨_,rfl⟩|⟨ae,hx⟩
   exact cm ..;rcases(h.at_ j x (by omega) hx).Kz _ with e|⟨J2,m2,S2,n2,v2,e,ec,_⟩
   exact e;exact absurd ec.symm (h.cc i j J J2 (gt hj) aa (by rw[e];rfl))
  simp[bG,ca,hc,hp]
def xL{i k cap s r:Nat}{buf:Array Value}{tm:Bool}{v z:Value}{g sZ:Goroutine}{es:Array Event}(hi:gs[i]?=some g)(h:b7 P (i==0) g w=.comm sZ #[ck c v z] true .send w₁ es)(hc:w₁.heap[c]?=some (.chan cap buf false s r tm))(ac:0<i)(h0:gs[0]?=some (parked a cases .select))(hp:bK (gs.setIfInBounds i ph) c false=[(0,k)])(hk:∃cc,cases[k]?=some cc/\cc.send=none) :
  bT P (cb gs w sl) i=(.next (cb ((gs.setIfInBounds 0 (a.finishComm P cases .select k v true)).setIfInBounds i (bZ sZ hQ)) {w₁ with heap:=w₁.heap.setIfInBounds c (.chan cap buf false (s+1) (r+1) tm)} sl),
   dk i g.frame.fn g.frame.place es++[({g:=i,fn:=sZ.frame.fn,pos:=sZ.frame.place,act:=.send c s}:MemOp),{g:=0,fn:=a.frame.fn,pos:=a.frame.place,act:=.recv c r cap},{g:=i,fn:=sZ.frame.fn,pos:=sZ.frame.place,act:=.sendDone c s},{g:=0,fn:=a.frame.fn,pos:=a.frame.place,act:=.recvDone c r}].toArray):=by
 rw[cz hi h];have U:(0)≠i:=by omega
 have O:=stand_get (i:=i) U h0;have W:=cy P _ O (cs:=cases) (sh:=.select) rfl k v;have Y:(gs.setIfInBounds i ph).getD 0 default=parked a cases .select:=by rw[bv,O];rfl
 obtain⟨cc,aa,ab⟩:=hk;simp[b8,bG,ck,hc,hp,choose,hD,gB,bind,hM,pure,cb,W,Y,set_stand2,finishComm_parked,aa,ab,parked];rfl
end
end
section
open Go.Conc
open Go.ConcN (upd upd_same upd_ne)
variable {f f':bA} {c cap r s:Nat} {p p':String}
section
variable {P:Program} {fK:Nat->Prop} {w0:World} {Pd:Nat->Prop} {m:Ren} {wl:World} {a:Goroutine} {cases:Array CommCase} {chans:Nat->Option Nat} {K:Nat->Option (mW×Nat)}
def Ob{ρ:Nat->eG}{i:Nat}{r:eG}{x:Option (mW×Nat)}(O:∀j,(ρ j).sum=K j)(U:r.sum=x)(j:Nat):(cO ρ i r j).sum=cO K i x j:=by
 by_cases e:j=i;subst e;rw[cM,cM];exact U;rw[cN _ _ e,cN _ _ e];exact O j
def BR{i:Nat}:∀op∈([{g:=i,fn:=f,pos:=p,act:=.send c s},{g:=0,fn:=f',pos:=p',act:=.recv c r cap},{g:=i,fn:=f,pos:=p,act:=.sendDone c s},{g:=0,fn:=f',pos:=p',act:=.recvDone c r}]:List MemOp),op.act.touch?=none:=by
 intro op O;simp only[cP,cQ,or_false]at O;rcases O with rfl|rfl|rfl|rfl<;>rfl
def zu{i:Nat}:∀op∈([{g:=i,fn:=f,pos:=p,act:=.send c s},{g:=0,fn:=f',pos:=p',act:=.recv c r cap},{g:=i,fn:=f,pos:=p,act:=.sendDone c s},{g:=0,fn:=f',pos:=p',act:=.recvDone c r}]:List MemOp),op.act≠.mark .disable/\op.act≠.mark .enable:=by
 intro op O;simp only[cP,cQ,or_false]at O;rcases O with rfl|rfl|rfl|rfl<;>simp
def Qu(ρ:Nat->eG)(cases:Array CommCase)(chans:Nat->Option Nat)(K:Nat->Option (mW×Nat)):Prop:=
 ∀k c,k<cases.size->chans k=some c->∃i J n,K i=some (J,n)/\J.c=c/\((∃m S,ρ i=.act J m S n)\/∃m S k,ρ i=.start J m S k)
def select{Z:jj P}{N:Nat}(hS:xo P a cases chans K)
  (hv:∀(k i:Nat)J n v,k<cases.size->chans k=some J.c->K i=some (J,n)->J.L[n]?=some v->∀ρ gs w sl t,Co P fK w0 Pd ρ m wl gs w t->(∀j,(ρ j).sum=cO K i (some (J,n+1)) j)->gs[0]?=some (a.finishComm P cases .select k v true)->gs.size=N->Z.Up (cb gs w sl) t)
  (he:∀(k i:Nat)J z,cases[k]?=some (ca J.c z)->chans k=some J.c->K i=some (J,J.L.length)->∀ρ gs w sl t,Co P fK w0 Pd ρ m wl gs w t->(∀j,(ρ j).sum=cO K i none j)->gs[0]?=some (a.finishComm P cases .select k z false)->gs.size=N->Z.Up (cb gs w sl) t) :
  ∀ρ gs w sl t,Co P fK w0 Pd ρ m wl gs w t->(∀j,(ρ j).sum=K j)->gs[0]?=some a->gs.size=N->Z.Up (cb gs w sl) t:=by
 have key:∀ρ,Acc (JS (iN P) N) ρ->∀gs w sl t,Co P fK w0 Pd ρ m wl gs w t->(∀j,(ρ j).sum=K j)->gs.size=N->((∃a',gs[0]?=some a'/\a'.status=.running/\∀w,b7 P true a' w=.comm a cases true .select w #[])\/(gs[0]?=some (parked a cases .select)/\Qu ρ cases chans K))->Z.Up (cb gs w sl) t:=by
  intro ρ aP;induction aP with
  |intro ρ _ ih=>
   have hB:∀gs w sl t,Co P fK w0 Pd ρ m wl gs w t->(∀j,(ρ j).sum=K j)->gs.size=N->gs[0]?=some (parked a cases .select)->Qu ρ cases chans K->Z.Up (cb gs w sl) t:=by
    intro gs w sl t h hK hN h0 hW
    have av:∃(i:Nat)(g:Goroutine),gs[i]?=some g/\g.status=.running:=by
     obtain⟨k,c,W,hc⟩:=hS.some_;obtain⟨i,J,n,U,_,hr⟩:=hW k c W hc;obtain⟨g,hi,hg,ad⟩:=h.get (i:=i) λe=>by rcases hr with⟨_,_,x⟩|⟨_,_,_,x⟩<;>rw[e]at x<;>cases x
     refine⟨i,g,hg,?_⟩;rcases hr with⟨_,_,x⟩|⟨_,_,_,x⟩
     rw[x]at ad;obtain⟨_,_,ad⟩:=ad;obtain⟨fr,cs,rfl,_⟩:=ad.sU;rfl;rw[x]at ad;exact ad.2.2.2.2.2.2.status
    obtain⟨i,g,d,ae,hi,hg,ay⟩:=cv (P:=P) (w:=w) (sl:=sl) (h.awake h0 (.inr (.inl rfl))) av;refine Z.back _ _ ?_;rw[ay]
    have ab:0<i:=by
     rcases de i with rfl|ab
     rw[h0]at hi;cases hi;cases hg;exact ab
    have aY:(i==0)=false:=by simp;omega
    have al:=(bo.1 hi).1;have O:=h.at d;by_cases az:∃J mi S n g₁ cs w₁ es,ρ i=.act J mi S n/\b7 P false g (w.at d)=.comm g₁ cs true .send w₁ es/\cf (parked a cases .select) J.c false≠[];obtain⟨J,mi,S,n,g₁,cs,w₁,es,ac,ao,aZ⟩:=az;have ad:=O.at_ i g ab hi;rw[ac]at ad;obtain⟨aw,⟨s,r,hc⟩,aB⟩:=ad
    have aQ:¬J.Stop S:=by
     intro aE;obtain⟨hn,fr,ps,a',ty,cs',rfl,hm,hd,hq,bk⟩:=aB.stands aw aE;rw[closing (P:=P) (ps:=ps) hm hd hq hc]at ao;cases ao
    have aR:=aB.Cl aw aQ;rw[ao]at aR
    cases aR with
    |@send S' dz _ _ _ v' z' bl ba af W bc=>
     have a5:(ρ i).live=some mi:=by rw[ac];rfl
     obtain⟨bm,bd⟩:=O.wr (eG.nG a5);have ap:=W.chan bd hc
     obtain⟨k,aF,aS⟩:∃k,k<cases.size/\chans k=some _:=by
      apply ee;intro aq;exact aZ (hS.F7 λk W hc=>aq ⟨k,W,hc⟩)
     obtain⟨zk,ag⟩:=hS.get aF
     have hp:bK (gs.setIfInBounds i ph) J.c false=[(0,k)]:=by
      rw[cA (j:=0) (g:=parked a cases _) (by rw[a4 (by omega)];exact h0) λj x hj hx=>?_];rw[hS.offers aF aS];rfl;rcases ci gs i j x hx with⟨_,rfl⟩|⟨_,hx⟩
      exact cm ..;exact(O.at_ j x (by omega) hx).offers _
     have ar:=xL (P:=P) (sl:=ae) hi (by rw[aY];exact ao) ap ab h0 hp ⟨_,ag,rfl⟩;rw[ar];refine Z.next _ _ _ _ ?_;obtain⟨v0,fr',cs',e,aT⟩:=af.sU;obtain⟨f0,bn,_,_,_,_,_,_,_,be,_⟩:=aT.sU
     have h1:Co P fK w0 Pd (cO ρ i (.j0 J dz S' n v')) m wl (gs.setIfInBounds i (parked g₁ #[ck J.c v' z'] .send)) w₁ (t++dk i g.frame.fn g.frame.place es):=
      O.step (gs':=gs.setIfInBounds i _) ab al a5 ba W bc be ⟨aw,⟨s,r,ap⟩,g₁,z',rfl,af⟩ rfl (by rw[ac];rfl) (by rw[ac];rfl) (by rw[ac];rfl) (by simp) (by simp[al]) (zC _)
     obtain⟨bf,h2⟩:=h1.Ur (gs':=(gs.setIfInBounds 0 (a.finishComm P cases _ k v' true)).setIfInBounds i (bZ g₁ hQ)) (g₁:=g₁) (z:=z') (u:=[({g:=i,fn:=g₁.frame.fn,pos:=g₁.frame.place,act:=.send J.c s}),{g:=0,fn:=a.frame.fn,pos:=a.frame.place,act:=.recv _ r 0},{g:=i,fn:=g₁.frame.fn,pos:=g₁.frame.place,act:=.sendDone _ s},{g:=0,fn:=a.frame.fn,pos:=a.frame.place,act:=.recvDone _ r}]) ab (cM ..) (by simp[al]) ap (s':=s+1) (r':=r+1) rfl BR zu (by simp) (by simp[al]) (λj hj aA=>by
      rw[a4 (gt aA),a4 (by omega),a4 (gt aA)])
     obtain⟨v1,aU,aG⟩:=af.value aw;have U:K i=some (J,n):=by rw[<-hK i,ac];rfl
     have ev:=hS.flat i J n U v1 (cY aU) _ _ aG;subst ev;rw[<-Array.append_assoc];refine hv k i J n v' aF aS U aU _ _ _ ae _ h2 (λj=>?_) (by rw[a4 (by omega),bu (by omega)]) (by simp[hN]);by_cases ej:j=i;subst ej;rw[cM,cM];rfl;rw[cN _ _ ej,cN _ _ ej,cN _ _ ej];exact hK j
    obtain⟨gs',w',ops,ρ',hr,ai,aH,aj,aI,hz,bg,aJ⟩:=O.other (sl:=ae) ab hi hg h0 λJ mi S n g₁ cs w₁ es h1 h2=>ee λh3=>az ⟨J,mi,S,n,g₁,cs,w₁,es,h1,h2,h3⟩;rw[hr];refine Z.next _ _ _ _ (ih ρ' (hN▸aH) gs' w' ae _ ai (λj=>(aj j).trans (hK j)) (aI.trans hN) ?_)
    have aC:(∀k c,k<cases.size->chans k=some c->¬gE w' c true)->Qu ρ' cases chans K:=by
     intro ak k c W hc;obtain⟨Y,J,n,U,aa,aK⟩:=hW k c W hc;refine⟨Y,J,n,U,aa,?_⟩;rcases ai.ways (i:=Y) (J:=J) (n:=n) ((aj Y).trans ((hK Y).trans U)) hQ with⟨m1,S1,v1,e,_⟩|⟨m1,S1,q1,e,_,_,jP⟩|⟨e,_⟩
     by_cases ei:Y=i;subst ei;have:=bg J m1 S1 n v1 e;rw[aa,hS.offers W hc]at this;cases this;rw[aJ Y ei]at e;rcases aK with⟨_,_,x⟩|⟨_,_,_,x⟩<;>rw[e]at x<;>cases x
     exact absurd (aa▸jP) (ak k c W hc);exact e
    have a6:(∀j,(ρ' j).chan=(ρ j).chan)->∀k c,k<cases.size->chans k=some c->¬gE w' c true:=by
     intro ax k c W hc jP;obtain⟨Y,J,n,U,aa,aK⟩:=hW k c W hc
     have aV:(ρ' Y).chan=some J:=by
      rw[ax];rcases aK with⟨_,_,x⟩|⟨_,_,_,x⟩<;>rw[x]<;>rfl
     obtain⟨s1,r1,jP⟩:=jP;rcases ai.ways (i:=Y) (J:=J) (n:=n) ((aj Y).trans ((hK Y).trans U)) hQ with⟨m1,S1,v1,e,_,s2,r2,hx⟩|⟨m1,S1,q1,e,_,_,_⟩|⟨e,_,s2,r2,hx⟩
     rw[aa,jP]at hx;cases hx;rw[e]at aV;cases aV;rw[aa,jP]at hx;cases hx
    rcases hz with⟨hx,ax⟩|hx
    exact .inr ⟨hx,aC (a6 ax)⟩;by_cases jP:∃k c,k<cases.size/\chans k=some c/\gE w' c true;obtain⟨k,c,W,hc,s1,r1,jP⟩:=jP;refine .inl ⟨{parked a cases _ with status:=.running},?_,rfl,hS.U0⟩;rw[hx];obtain⟨zk,ag⟩:=hS.get W;rw[hc]at ag
    have a7:(cases.any λc=>match c.chan with
      |.chan (some r)=>(w'.heap[r]? matches some (.chan _ _ true ..))
      |_=>false)=true:=by
     rw[Array.any_eq_true];refine⟨k,W,?_⟩
     have:=by
      rw[bp W]at ag;exact dt ag
     simp[this,jP]
    exact congrArg some (if_pos a7);have ak:=λk c W hc hx=>jP ⟨k,c,W,hc,hx⟩;refine .inr ⟨?_,aC ak⟩;rw[hx]
    have a7:(cases.any λc=>match c.chan with
      |.chan (some r)=>(w'.heap[r]? matches some (.chan _ _ true ..))
      |_=>false)=false:=by
     rw[Array.any_eq_false];intro k W;obtain⟨zk,ag⟩:=hS.get W
     have e:=by
      rw[bp W]at ag;exact dt ag
     cases am:chans k with
     |none=>rw[am]at e;simp[e]|some c=>
      rw[am]at e;obtain⟨Y,J,n,U,aa⟩:=hS.own k c W am;have no:=ak k c W am;rcases ai.ways (i:=Y) (J:=J) (n:=n) ((aj Y).trans ((hK Y).trans U)) hQ with⟨_,_,_,_,_,s2,r2,hx⟩|⟨_,_,_,_,_,_,hx⟩|⟨_,_,s2,r2,hx⟩
      rw[aa]at hx;simp[e,hx];exact absurd (aa▸hx) no;rw[aa]at hx;simp[e,hx]
    exact congrArg some (if_neg (by rw[eC];exact a7))
   intro gs w sl t h hK hN ay;rcases ay with⟨a',h0,an,a8⟩|⟨h0,hW⟩
   obtain⟨i,g,d,ae,hi,hg,ay⟩:=cv (P:=P) (w:=w) (sl:=sl) (h.awake h0 (.inl an)) ⟨0,a',h0,an⟩;refine Z.back _ _ ?_;rw[ay];have O:=h.at d;rcases de i with rfl|ab
   obtain rfl:=by rw[h0]at hi;exact(dt hi).symm
   have al:=(bo.1 hi).1;have ao:b7 P _ g (w.at d)=.comm a cases true _ _ _:=a8 _;have e0:dk 0 g.frame.fn g.frame.place #[]=#[]:=by rw[cg];simp
   have made:∀cc∈cases,cC (w.at d) cc=false:=by
    intro cc ah;obtain⟨k,W,rfl⟩:=br.1 ah;obtain⟨z,hz⟩:=hS.cs k _ (bp W);rw[hz]
    cases am:chans k with
    |none=>rfl|some c=>
     obtain⟨Y,J,n,U,aa⟩:=hS.own k c W am;obtain⟨cl,s,r,hx⟩:=O.is (eG.yl ((hK Y).trans U));rw[aa]at hx;simp[cC,hx]
   have one:∀(k:Nat)cc,cases[k]?=some cc->(bG (w.at d) (gs.setIfInBounds 0 ph) cc=[])\/∃i J n,chans k=some J.c/\K i=some (J,n)/\(∃z,cc=ca J.c z)/\((∃m S v,ρ i=.j0 J m S n v/\bG (w.at d) (gs.setIfInBounds 0 ph) cc=[.partner i 0]/\gE (w.at d) J.c false)\/(∃m S q,ρ i=.ended false J m S q/\n=J.L.length/\bG (w.at d) (gs.setIfInBounds 0 ph) cc=[.closed]/\gE (w.at d) J.c true)):=by
    intro k cc ah;have W:=(bo.1 ah).1;obtain⟨z,rfl⟩:=hS.cs k cc ah
    cases am:chans k with
    |none=>exact .inl rfl|some c=>
     obtain⟨Y,J,n,U,aa⟩:=hS.own k c W am;subst aa;rcases O.ways ((hK Y).trans U) z with⟨m1,S1,v1,x1,x2,x3⟩|⟨m1,S1,q1,x1,x2,x3,x4⟩|⟨_,x2,_⟩
     exact .inr ⟨Y,J,n,rfl,U,⟨z,rfl⟩,.inl ⟨m1,S1,v1,x1,x2,x3⟩⟩;exact .inr ⟨Y,J,n,rfl,U,⟨z,rfl⟩,.inr ⟨m1,S1,q1,x1,x2,x3,x4⟩⟩;exact .inl x2
   by_cases au:∃(k:Nat)(cc:CommCase),cases[k]?=some cc/\bG (w.at d) (gs.setIfInBounds 0 ph) cc≠[]
   rcases Bv (P:=P) (sl:=ae) hi ao made (λk cc ah=>by
    rcases one k cc ah with x|⟨Y,J,n,_,_,⟨z,rfl⟩,⟨m1,S1,v1,_,x2,s,r,x3⟩|⟨m1,S1,q1,_,_,x3,s,r,x4⟩⟩
    exact .inl x;exact .inr (.inr ⟨J.c,z,_,_,_,_,_,_,_,_,rfl,x3,x2⟩)
    exact .inr (.inl ⟨J.c,z,_,_,_,_,_,rfl,x4,x3⟩)) au with⟨k,c,z,d',W,hw,ar⟩|⟨k,c,z,d',j,q,cap,s,r,buf,cl,tm,W,ax,hw,ar⟩
   rcases one k _ W with x|⟨Y,J,n,aL,U,⟨z',ez⟩,⟨m1,S1,v1,_,x2,_⟩|⟨m1,S1,q1,ac,hn,_,_⟩⟩
   rw[x]at hw;cases hw;rw[x2]at hw;cases hw;have ec:=by simp[ca]at ez;exact ez.1
   subst ec
   have aM:0<Y:=by
    obtain⟨_,x,_,_⟩:=O.get (i:=Y) (by rw[ac];simp);exact x
   rw[ar,e0];refine Z.next _ _ _ _ ?_;have hh:=(O.at d').hear (gs':=gs.setIfInBounds 0 (a.finishComm P cases .select k z false)) (fn:=a.frame.fn) (pos:=a.frame.place) aM ac (by simp) (λj hj=>a4 (by omega));subst hn;exact he k Y J z W aL U _ _ _ ae _ hh (Ob hK rfl) (by simp[al]) (by simpa using hN);rcases one k _ W with x|⟨Y,J,n,aL,U,⟨z',ez⟩,⟨m1,S1,v1,ac,x2,s2,r2,hx⟩|⟨m1,S1,q1,ac,hn,x2,_⟩⟩
   rw[x]at hw;cases hw;have ec:=by simp[ca]at ez;exact ez.1
   subst ec;rw[x2]at hw;obtain⟨rfl,rfl⟩:=by simpa using hw
   have aD:=hx;rw[aD]at ax;cases ax;obtain⟨gi,aM,aN,ad⟩:=O.get (i:=Y) (by rw[ac];simp);rw[ac]at ad;obtain⟨aw,_,g0,z0,rfl,af⟩:=ad;have aO:(gs.setIfInBounds 0 ph)[Y]?=some (parked g0 #[ck J.c v1 z0] .send):=by rw[a4 (by omega)];exact aN
   have bh:bR (gs.setIfInBounds 0 ph) Y 0=v1:=by simp[bR,aO,parked,ck]
   have bi:=cy P _ aO (cs:=#[ck _ v1 z0]) (sh:=.send) rfl 0 hQ;have bj:(gs.setIfInBounds 0 ph).getD Y default=parked g0 #[ck J.c v1 z0] .send:=by rw[bv,aO];rfl
   rw[ar,bh,bi,bj];refine Z.next _ _ _ _ ?_;obtain⟨v2,aW,aG⟩:=af.value aw;have ev:=hS.flat Y J n U v2 (cY aW) _ _ aG;subst ev
   obtain⟨bf,hh⟩:=(O.at d').Ur (gs':=(((gs.setIfInBounds 0 ph).setIfInBounds Y ((parked g0 _ _).finishComm P _ .send (0) hQ (((#[ck J.c v1 z0])[0]?.map _).getD false))).setIfInBounds 0 (a.finishComm P cases _ k v1 true))) (g₁:=g0) (z:=z0) (u:=[({g:=Y,fn:=g0.frame.fn,pos:=g0.frame.place,act:=.send J.c s}),{g:=0,fn:=a.frame.fn,pos:=a.frame.place,act:=.recv _ r 0},{g:=Y,fn:=g0.frame.fn,pos:=g0.frame.place,act:=.sendDone _ s},{g:=0,fn:=a.frame.fn,pos:=a.frame.place,act:=.recvDone _ r}]) aM ac aN aD (s':=s+1) (r':=r+1) rfl BR zu (by simp) (by
    rw[a4 (by omega),bu (by simpa using(bo.1 aN).1)]
    rfl) (λj hj aA=>by
    rw[a4 (by omega),a4 (gt aA),a4 (by omega)])
   exact hv k Y J n v1 (bo.1 W).1 aL U aW _ _ _ ae _ hh (Ob hK rfl) (by simp[al]) (by simpa using hN);rw[x2]at hw;cases hw;have a9:=λk cc ah=>ee λhx=>au ⟨k,cc,ah,hx⟩
   have ar:=cD (P:=P) (sl:=ae) hi ao (λcc ah=>by
    obtain⟨k,W,rfl⟩:=br.1 ah
    exact⟨made _ (Array.getElem_mem W),a9 k _ (bp W)⟩)
   rw[ar];refine Z.next _ _ _ _ ?_
   have aX:Co P fK w0 Pd ρ m wl (gs.setIfInBounds 0 (parked a cases .select)) (w.at d) t:=by
    refine⟨O.main,λi g hi hg=>O.at_ i g hi (by rw[a4 (by omega)]at hg;exact hg),λi hi=>O.out i (by simpa using hi),O.d0,O.dd,O.cc,O.s0,O.ss,O.LI,O.low,O.hears,O.kQ,O.clean,O.fix,O.f0,O.ff,O.cx,O.sz,O.os,O.kn,O.pd,O.len⟩
   refine hB _ _ _ _ aX hK (by simpa using hN) (by simp[al]) λk c W hc=>?_;obtain⟨Y,J,n,U,aa⟩:=hS.own k c W hc;refine⟨Y,J,n,U,aa,?_⟩;obtain⟨zk,ag⟩:=hS.get W;have aq:=a9 k _ ag;rw[hc,<-aa]at aq;rcases O.ways ((hK Y).trans U) zk with⟨_,_,_,_,x2,_⟩|⟨_,_,_,_,_,x3,_⟩|⟨x,_⟩
   rw[show(⟨.chan _,none,zk⟩)=ca _ zk from rfl,x2]at aq;cases aq;rw[show(⟨.chan _,none,zk⟩)=ca _ zk from rfl,x3]at aq;cases aq;exact x;obtain⟨gs',w',ops,ρ',hr,ai,aH,aj,aI,hz,_,_⟩:=O.other (sl:=ae) ab hi hg h0 λJ mi S n _ _ _ _ _ _=>bX (by rw[an];simp) ..;rw[hr];refine Z.next _ _ _ _ (ih ρ' (hN▸aH) gs' w' ae _ ai (λj=>(aj j).trans (hK j)) (aI.trans hN) (.inl ⟨a',?_,an,a8⟩));rcases hz with⟨x,_⟩|x
   exact x;rw[x,c8 _ (.inl an)];exact hB gs w sl t h hK hN h0 hW
 intro ρ gs w sl t h hK h0 hN;exact key ρ (hN▸h.acc) gs w sl t h hK hN (.inl ⟨a,h0,hS.run,hS.step⟩)
end
end
section
open Go.Conc
open Go.ConcN (upd upd_same upd_ne)
variable {V:List (Nat×Option (List Value))}
section
variable {P:Program} {fK:Nat->Prop} {w0:World} {Pd:Nat->Prop} {ρ:Nat->eG} {m dz:Ren} {wl qZ:World} {gs gs':Array Goroutine} {w w₁:World} {t:bB} {sl:Option (Nat×Nat)}
def Co.xx{fn:bA}{pos:String}{es:Array Event}(h:Co P fK w0 Pd ρ m wl gs w t)(ac:m.Le dz)(hk:fI m dz w w₁)(he:∀e∈es,py dz e)(U:WR dz qZ w₁)(ag:gs'.size=gs.size)
  (ah:∀j x,0<j->gs'[j]?=some x->∃y,gs[j]?=some y/\(At P w₁ (t++dk 0 fn pos es) j y (ρ j)->x=y)) :
  Co P fK w0 Pd ρ dz qZ gs' w₁ (t++dk 0 fn pos es):=by
 have dj:∀j m',(ρ j).nj=some m'->ol dz m':=λj m' O=>by
  obtain⟨wl',ai⟩:=h.wr O;exact ol.grow (h.d0 j m' O) ac hk ai
 have W:∀c cl,gE w c cl->w₁.heap[c]?=w.heap[c]?:=λc cl x=>hk.PC h.main x
 have hrel:∀j y,0<j->gs[j]?=some y->At P w₁ (t++dk 0 fn pos es) j y (ρ j):=by
  intro j y hj hy;refine(h.at_ j y hj hy).rely (λm' O=>hk.leaves (h.d0 j m' O) (h.wr O).choose_spec) (λJ hJ=>?_) hk.size hk.os λop aa hg=>absurd (ofEvents_g aa) (by omega);obtain⟨cl,Y⟩:=h.is hJ;exact W _ cl Y
 have ab:=h.s0.grow ac h.low hk.news;refine⟨U,λj x af Y=>?_,λj hj=>h.out j (by rw[<-ag];exact hj),dj,h.dd,h.cc,ab.own,λj m' O=>(h.ss j m' O).other (dj j m' (eG.nG O)).symm he,λj J hJ p a ha hb=>?_,h.low.own U hk.size he,Cr h.hears he,h.kQ.app λop aa=>.inr (.inl (ofEvents_g aa)),ab.clean h.clean he,λb hb=>?_,λr b aj hb=>?_,h.ff,h.cx,dc h.sz hk.size,⟨hk.os.trans h.os.1,hk.output.trans h.os.2⟩,h.kn.app (λj m' r b O Y=>⟨j,m',r,O,Y⟩) (λop aa _ _ _ _ _=>.inl (ofEvents_g aa)),h.pd.app (λ_=>rfl) (λc _ ad=>W c _ ad) (λop aa a c ha _ ad hb=>?_),h.len⟩;obtain⟨y,hy,ak⟩:=ah j x af Y;have:=hrel j y af hy;rw[ak this];exact this;rcases eh ha with⟨_,h1⟩|⟨op,h1,_,h3⟩
 exact h.LI j J hJ p a h1 hb;obtain⟨e,ae,rfl⟩:=bW h1
 have hm:a.loc.isMemory=true:=by
  cases hl:a.loc<;>rw[hl]at hb<;>simp[lR]at hb<;>rfl
 obtain⟨b',r',g1,g2,g3⟩:=mF (he e ae) h3 hm;rw[hb]at g1;cases g1;obtain⟨cl,s,y,Y⟩:=h.is (eG.u9 hJ);have:gE w₁ _ cl:=⟨s,y,by rw[W _ cl ⟨s,y,Y⟩];exact Y⟩;exact U.yG this g2;obtain⟨h1,h2⟩:=h.fix b hb;refine⟨da h1 hk.size,?_⟩;rw[<-h2];by_cases Y:∃r,m.blk r=some b;obtain⟨r,Y⟩:=Y;exact hk.still r b Y (h.f0 r b Y hb);exact hk.old b h1 λr al=>Y ⟨r,al⟩;rcases hk.news r b aj with x|x
 exact(ac.loose r b x).2 (h.f0 r b x hb);have:=(h.fix b hb).1;omega;obtain⟨e,ae,rfl⟩:=bW aa
 have hm:a.loc.isMemory=true:=by
  cases hl:a.loc<;>rw[hl]at hb<;>simp[lR]at hb<;>rfl
 obtain⟨b',r',g1,g2,g3⟩:=mF (he e ae) ha hm;rw[hb]at g1;cases g1;obtain⟨s,y,Y⟩:=ad;exact U.yG (cl:=false) ⟨s,y,by rw[W _ false ⟨s,y,Y⟩];exact Y⟩ g2
def Co.calm(h:Co P fK w0 Pd ρ m wl gs w t)(O:∀i,(ρ i).sum=none)(m':Ren):nO t 0 m':=by
 intro p a b r U hb _ _
 have hm:a.loc.isMemory=true:=by
  cases W:a.loc<;>rw[W]at hb<;>simp[lR]at hb<;>rfl
 rcases h.kQ p a U hm with x|⟨op,_,x⟩
 exact x;exact absurd (O _) x
def gO{g g':Goroutine}{u:bB}(w₁:World):∀j x,0<j->((gs.map (woken P g g' w₁)).setIfInBounds 0 g')[j]?=some x->∃y,gs[j]?=some y/\(At P w₁ u j y (ρ j)->x=y):=by
 intro j x W O;rw[a4 (by omega),bx]at O;obtain⟨y,U,rfl⟩:=cJ.1 O;exact⟨y,U,λh=>h.woken g g'⟩
end
structure OF where
 fn:bA
 tm:Array Value
 td:List Item
def fY(fn:bA)(tm:Array Value)(td:List Item):Frame:=⟨fn,tm,td,[],.run,.normal,none⟩
inductive oq(m:Ren)(T:List Frame):List OF->List Frame->Prop
 |nil:oq m T [] T|cons {o os tm' l}:eD m o.tm tm'->oq m T os l->oq m T (o::os) (fY o.fn tm' o.td::l)
def oq.mono{m dz:Ren}{T:List Frame}(h:m.Le dz){os:List OF}{l:List Frame}(x:oq m T os l):oq dz T os l:=by
 induction x with
 |nil=>exact .nil|cons O _ U=>exact .cons (O.mono h) U
structure Env(P:Program) where
 Z:jj P
 fK:Nat->Prop
 w0:World
 T:List Frame
 gl:Nat->Prop
 st:Bool
 fF:bA->Prop
 ok:Oper->Prop
 X:Ren->Prop
 le:∀m dz:Ren,m.Le dz->X m->X dz
structure Rg{P:Program}(E:Env P)(m:Ren):Prop where
 qf:lZ P m E.gl E.st
 iq:¬m.iq
 mT:∀r r',m.ch r=some r'->m.lz r=some (.chan 0 #[] false 0 0 false)
 fF:m.fF=E.fF
 Um:m.ok=E.ok
 x:E.X m
structure SJ(m:Ren)(ρ:Nat->eG)(Pd:Nat->Prop)(V:List (Nat×Option (List Value))):Prop where
 all:∀r vs,(r,some vs)∈V->∃i J n,(ρ i).sum=some (J,n)/\m.ch r=some J.c/\n<=J.L.length/\J.L.drop n=vs/\∀v∈J.L,∀(m:Ren)v',VR m v v'->v'=v
 only:∀i J n,(ρ i).sum=some (J,n)->∃r vs,(r,some vs)∈V/\m.ch r=some J.c
 Mu:∀r,(r,none)∈V->∃c,m.ch r=some c/\Pd c
section
variable {P:Program} {E:Env P}
def Rg.open{m:Ren}(h:Rg E m):Open m:=λr r' O=>⟨_,_,_,_,_,h.mT r r' O⟩
def Rg.le{m dz:Ren}{w w₁:World}(h:Rg E m)(O:m.Le dz)(U:fI m dz w w₁):Rg E dz:=
 ⟨h.qf.mono O,by rw[O.iq];exact h.iq,λr r' W=>by rw[U.mT h.iq]at W;rw[U.lz];exact h.mT r r' W,O.fF.trans h.fF,O.ok.trans h.Um,E.le m dz O h.x⟩
def SJ.le{m dz:Ren}{ρ ρ':Nat->eG}{Pd:Nat->Prop}(h:SJ m ρ Pd V)(W:m.Le dz)(hs:∀j,(ρ' j).sum=(ρ j).sum):SJ dz ρ' Pd V:=by
 refine⟨λr vs Y=>?_,λi J n hi=>?_,λr Y=>?_⟩;obtain⟨i,J,n,O,U,h3⟩:=h.all r vs Y;exact⟨i,J,n,by rw[hs];exact O,W.ch _ _ U,h3⟩;rw[hs]at hi;obtain⟨r,vs,O,U⟩:=h.only i J n hi;exact⟨r,vs,O,W.ch _ _ U⟩;obtain⟨c,O,U⟩:=h.Mu r Y;exact⟨c,W.ch _ _ O,U⟩
def dh(E:Env P)(os:List OF)(wl:World)(V:List (Nat×Option (List Value))):Prop:=
 ∀m(Pd:Nat->Prop)ρ gs w sl t fr' cs',Rg E m->Co P E.fK E.w0 Pd ρ m wl gs w t->SJ m ρ Pd V->oq m E.T os (fr'::cs')->gs[0]?=some (G fr' cs')->E.Z.Up (cb gs w sl) t
def RI(E:Env P)(os:List OF)(wl:World)(N:List OF->World->Prop):Prop:=
 ∀m w fr' cs',Rg E m->oq m E.T os (fr'::cs')->WR m wl w->∃dz O U w₁ es W qZ,b7 P true (G fr' cs') w=.go (G O U) w₁ es/\m.Le dz/\fI m dz w w₁/\(∀e∈es,py dz e)/\oq dz E.T W (O::U)/\WR dz qZ w₁/\N W qZ
def dh.step{os:List OF}{wl:World}{N:List OF->World->Prop}(h:RI E os wl N)(hn:∀O qZ,N O qZ->dh E O qZ V):dh E os wl V:=by
 intro m Pd ρ gs w sl t fr' cs' aa ae af ab h0;refine turn (Z:=E.Z) (a:=G fr' cs') (K:=λj=>(ρ j).sum) (N:=gs.size) rfl ?_ ρ gs w sl t ae (λ_=>rfl) h0 rfl;intro ρ' gs' w' aj ac d t' U hK ad hN;obtain⟨dz,W,Y,w₁,es,O,qZ,hs,hl,hk,he,ho,hw,ag⟩:=h m _ fr' cs' aa ab U.main;have ah:=bY (P:=P) (sl:=ac) (i:=0) ad (show b7 P .. = _ from hs);rw[ah];refine E.Z.next _ _ _ _ ?_;have ai:=(bo.1 ad).1;exact hn O qZ ag dz Pd ρ' _ _ ac _ W Y (aa.le hl hk) (U.xx (gs':=(gs'.map _).setIfInBounds 0 _) hl hk he hw (by simp) (gO _)) (af.le hl hK) ho (by simp[ai])
end
end
section
open Go.Conc
variable {ops:Array Oper} {t t':Array Value} {x y:Code} {rest:List Nat} {i id:Nat} {m:Ren}
def eP(O:Option Tmp)(tm:Array Value)(v:Value):Array Value:=match O with|some d=>tm.setIfInBounds d v|none=>tm
def iW(tm:Array Value):Operand->Value:=Act.eval ⟨tm,[]⟩
section
variable {P:Program} {E:Env P} {fn:bA} {tm:Array Value} {os:List OF} {wl:World} {V:List (Nat×Option (List Value))} {k:List Item}
def OQ(fn:bA)(tm:Array Value)(td:List Item):(fY fn tm td).eval=iW tm:=by funext x;cases x<;>rfl
def jd(fn:bA)(tm:Array Value)(ops:Array Oper)(i:Nat)(rest:List Nat)(k:List Item)(v:Value):(fY fn tm (.inRegion ops (i::rest)::k)).finish v=fY fn (eP ((ops[i]?).bind (·.dst)) tm v) (.inRegion ops rest::k):=by
 cases h:(ops[i]?).bind _<;>simp[gA,fY,eP,h]
def eD.eP(h:eD m t t')(d:Option Tmp){v O:Value}(U:VR m v O):eD m (Go.Proofs.YtocbogeoffeolaaGreatDoor.eP d t v) (Go.Proofs.YtocbogeoffeolaaGreatDoor.eP d t' O):=by
 cases d with
 |none=>exact h|some d=>exact h.set d U
def Lo(h:eD m t t'){gl:Nat->Prop}(O:∀g,gl g->m.blk g=some g)(x:Operand)(U:dQ m.fF gl x):VR m (iW t x) (iW t' x):=by
 cases x with
 |tmp i=>exact h.getD i|const v=>exact VR.plain U|global g=>exact .ptr (.mk (O g U))|func f=>exact .Ly (.func f U) (.nil m) (.nil m)
def dh.tape{τ:Nat->Question->Nat}(h:dh E os (tp wl τ) V):dh E os wl V:=by
 intro m Pd ρ gs w sl t fr' cs' W O U Y h0;exact h m Pd ρ gs w sl t fr' cs' W ⟨O.main.tp τ,O.at_,O.out,O.d0,O.dd,O.cc,O.s0,O.ss,O.LI,O.low,O.hears,O.kQ,O.clean,O.fix,O.f0,O.ff,O.cx,O.sz,O.os,O.kn,O.pd,O.len⟩ U Y h0
def dh.ctl{td O:List Item}(h:∀U cs' w,b7 P true (G (fY fn U td) cs') w=.go (G (fY fn U O) cs') w #[])(Y:dh E (⟨fn,tm,O⟩::os) wl V):dh E (⟨fn,tm,td⟩::os) wl V:=by
 refine dh.step (N:=λo w=>o=⟨fn,tm,O⟩::os/\w=wl) (λm w fr' cs' hr ho hw=>?_) (λo w ⟨h1,h2⟩=>by rw[h1,h2];exact Y)
 cases ho with
 |@cons _ _ U l ht W=>exact⟨m,_,_,w,#[],_,wl,h U cs' w,.refl m,.refl m w,by simp,.cons (o:=⟨fn,tm,O⟩) ht W,hw,rfl,rfl⟩
def dh.skip(h:dh E (⟨fn,tm,k⟩::os) wl V):dh E (⟨fn,tm,.code .skip::k⟩::os) wl V:=dh.ctl (λ_ _ _=>rfl) h
def dh.seq(h:dh E (⟨fn,tm,.code x::.code y::k⟩::os) wl V):dh E (⟨fn,tm,.code (.seq x y)::k⟩::os) wl V:=dh.ctl (λ_ _ _=>rfl) h
def dh.block(h:dh E (⟨fn,tm,.code x::.inBlock id::k⟩::os) wl V):dh E (⟨fn,tm,.code (.block id x)::k⟩::os) wl V:=dh.ctl (λ_ _ _=>rfl) h
def dh.inBlock(h:dh E (⟨fn,tm,k⟩::os) wl V):dh E (⟨fn,tm,.inBlock id::k⟩::os) wl V:=dh.ctl (λ_ _ _=>rfl) h
def dh.loop(h:dh E (⟨fn,tm,.code x::.inLoop x::k⟩::os) wl V):dh E (⟨fn,tm,.code (.loop x)::k⟩::os) wl V:=dh.ctl (λ_ _ _=>rfl) h
def dh.inLoop(h:dh E (⟨fn,tm,.code x::.inLoop x::k⟩::os) wl V):dh E (⟨fn,tm,.inLoop x::k⟩::os) wl V:=dh.ctl (λ_ _ _=>rfl) h
def dh.exit{k':List Item}(e:exitTo id k=some k')(h:dh E (⟨fn,tm,k'⟩::os) wl V):dh E (⟨fn,tm,.code (.exit id)::k⟩::os) wl V:=
 dh.ctl (λ_ _ _=>by simp[b7,ga,G,fY,e]) h
def dh.region(h:dh E (⟨fn,tm,.inRegion ops (cZ ops.size)::k⟩::os) wl V):dh E (⟨fn,tm,.code (.region id ops false)::k⟩::os) wl V:=
 dh.ctl (λ_ _ _=>by simp[b7,ga,G,fY]) h
def dh.inRegion(h:dh E (⟨fn,tm,k⟩::os) wl V):dh E (⟨fn,tm,.inRegion ops []::k⟩::os) wl V:=dh.ctl (λ_ _ _=>rfl) h
def dh.cond{c:Operand}{b:Bool}(Y:vW c)(e:iW tm c=.bool b)(h:dh E (⟨fn,tm,.code (if b then x else y)::k⟩::os) wl V):dh E (⟨fn,tm,.code (.cond c x y)::k⟩::os) wl V:=by
 refine dh.step (N:=λo w=>o=⟨fn,tm,.code (if b then x else y)::k⟩::os/\w=wl) (λm w fr' cs' hr ho hw=>?_) (λo w ⟨h1,h2⟩=>by rw[h1,h2];exact h)
 cases ho with
 |@cons _ _ O l ht U=>
  refine⟨m,_,_,w,#[],_,wl,?_,.refl m,.refl m w,by simp,.cons (o:=⟨fn,tm,.code (if b then x else y)::k⟩) ht U,hw,rfl,rfl⟩
  have hv:(fY fn O (.code (.cond c x y)::k)).eval c=.bool b:=by
   cases c with
   |tmp i=>
    have:=ht.getD i;have e:tm.getD i hQ=.bool b:=e;rw[e]at this;generalize hq:O.getD i hQ=q at this;cases this;exact hq
   |const v=>exact e|global g=>exact Y.elim|func f=>exact Y.elim
  have W:Frame.eval ⟨fn,O,.code _::k,[],.run,.normal,none⟩ c=.bool b:=hv;simp[b7,ga,G,fY,W]
def dh.Rr(h:∀t,dh E (⟨fn,tm,.inRegion ops (fm (P.follows .mixedOrders) ops t)::k⟩::os) wl V):dh E (⟨fn,tm,.code (.region id ops true)::k⟩::os) wl V:=by
 refine dh.step (N:=λo w=>∃t,o=⟨fn,tm,.inRegion ops (fm (P.follows .mixedOrders) ops t)::k⟩::os/\w=wl) (λm w fr' cs' hr U W=>?_) (λo w ⟨t,Y,h2⟩=>by rw[Y,h2];exact h t)
 cases U with
 |@cons _ _ aa l ht O=>
  obtain⟨t,d,e⟩:∃t d,(choose (.order fn id)).run P w=.ok t (w.at d):=by
   by_cases hf:(Question.order fn id).forced=true;exact⟨0,w.drawn,by simp[choose,hD,hf,World.at]⟩;exact⟨_,w.drawn+1,by rfl⟩
  refine⟨m,_,_,w.at d,#[],_,wl,?_,.refl m,fI.at m w d,by simp,.cons (o:=⟨fn,tm,.inRegion ops _::k⟩) ht O,W.at d,t,rfl,rfl⟩;simp[b7,ga,G,fY,e]
def ml{O:Array Value}{o:Oper}{cs':List Frame}{w:World}(hi:ops[i]?=some o)(U:fk o (b9 ops O)=true):b7 P true (G (fY fn O (.inRegion ops (i::rest)::k)) cs') w=fB P true (fY fn O (.inRegion ops (i::rest)::k)) cs' none (bE (iW O) o) w:=by
 have W:=OQ fn O (.inRegion ops (i::rest)::k);have:b7 P true (G (fY fn O (.inRegion ops (i::rest)::k)) cs') w=ga P true true (fY fn O (.inRegion ops (i::rest)::k)) cs' none w:=rfl;rw[this,<-W];unfold ga;simp only[fY,hi,cK,cL,U,if_true];unfold b7.oper;simp only[Frame.oper?,hi]
def dh.pass{o:Oper}(hi:ops[i]?=some o)(Y:fk o (b9 ops tm)=false)(h:dh E (⟨fn,eP o.dst tm hQ,.inRegion ops rest::k⟩::os) wl V):dh E (⟨fn,tm,.inRegion ops (i::rest)::k⟩::os) wl V:=by
 refine dh.step (N:=λo w=>dh E o w V) (λm w fr' cs' hr W hw=>?_) (λo w h=>h)
 cases W with
 |@cons _ _ O l ht aa=>
  have hy:fk o (b9 ops O)=false:=by rw[show b9 ops O=b9 ops tm from funext (mu ops ht)];exact Y
  have U:=jd fn O ops i rest k hQ;simp only[hi,cI]at U
  have ab:b7 P true (G (fY fn O (.inRegion ops (i::rest)::k)) cs') w=.go (G (fY fn (eP o.dst O hQ) (.inRegion ops rest::k)) cs') w #[]:=by
   rw[<-U];have:b7 P true (G (fY fn O (.inRegion ops (i::rest)::k)) cs') w=ga P true true (fY fn O (.inRegion ops (i::rest)::k)) cs' none w:=rfl;rw[this];unfold ga;simp only[fY,hi,cK,cL,hy,et,if_false,G]
  exact⟨m,_,_,w,_,_,wl,ab,.refl m,.refl m w,by simp,.cons (o:=⟨fn,eP _ tm hQ,.inRegion ops rest::k⟩) (ht.eP _ (.undef m)) aa,hw,h⟩
end
variable {S:LS} {Tc:List Frame} {w:World}
section
variable {P:Program} {E:Env P} {fn:bA} {tm:Array Value} {os:List OF} {wl:World} {V:List (Nat×Option (List Value))} {k:List Item}
def iZ(E:Env P)(S:LS)(os:List OF)(V:List (Nat×Option (List Value))):Prop:=
 ∀m(Pd:Nat->Prop)ρ gs w sl t fr' cs' Tc,Rg E m->Co P E.fK E.w0 Pd ρ m S.w gs w t->SJ m ρ Pd V->oq m E.T os Tc->dU P m Tc (S.fr::S.cs) (fr'::cs')->gs[0]?=some (G fr' cs')->E.Z.Up (cb gs w sl) t
def Co.tape{fK:Nat->Prop}{w0:World}{Pd:Nat->Prop}{ρ:Nat->eG}{gs:Array Goroutine}{t:bB}(O:Co P fK w0 Pd ρ m wl gs w t)(τ:Nat->Question->Nat):Co P fK w0 Pd ρ m (tp wl τ) gs w t:=
 ⟨O.main.tp τ,O.at_,O.out,O.d0,O.dd,O.cc,O.s0,O.ss,O.LI,O.low,O.hears,O.kQ,O.clean,O.fix,O.f0,O.ff,O.cx,O.sz,O.os,O.kn,O.pd,O.len⟩
def iZ.tape{τ:Nat->Question->Nat}(h:iZ E (S.on τ) os V):iZ E S os V:=by
 intro m Pd ρ gs w sl t fr' cs' Tc W Y O ho U h0;exact h m Pd ρ gs w sl t fr' cs' Tc W (Y.tape τ) O ho U h0
def Rg.sU{fr':Frame}{cs':List Frame}(h:Rg E m)(O:dU P m Tc (S.fr::S.cs) (fr'::cs'))(U:WR m S.w w):wM P E.gl E.st m Tc S fr' cs' w:=⟨h.qf,h.iq,h.open,O,U⟩
def iZ.ob{Stop:LS->Prop}(hB:zW Stop)(hH:mc P Stop S)(hn:∀S',Stop S'->iZ E S' os V):iZ E S os V:=by
 intro m Pd ρ gs w sl t fr' cs' Tc hr hc ac ho Y h0;have ae:=hH.acc hB ⟨_,_,_,_,_,_,_,hr.sU Y hc.main⟩;revert m Pd ρ gs w sl t fr' cs' Tc hH;induction ae with
 |intro S _ ih=>
  intro hH m Pd ρ gs w sl t fr' cs' Tc hr hc ac ho Y h0;by_cases O:Stop S;exact hn S O m Pd ρ gs w sl t fr' cs' Tc hr hc ac ho Y h0;refine turn (Z:=E.Z) (a:=G fr' cs') (K:=λj=>(ρ j).sum) (N:=gs.size) rfl ?_ ρ gs w sl t hc (λ_=>rfl) h0 rfl;intro ρ' gs' w' ao af d t' aa hK ag hN;have ab:=hr.sU Y aa.main;have ah:=ab.U6 hB hH O true;generalize aj:b7 P true .. = sg at ah
  cases ah with
  |@go S' dz U W w₁ es hg hl ai hk he=>
   have ak:=bY (P:=P) (sl:=af) (i:=0) ag (show b7 P .. = _ from aj);rw[ak];refine E.Z.next _ _ _ _ ?_;have al:=(bo.1 ag).1;exact ih S' hg (hH.own hB ⟨_,_,_,_,_,_,_,ab⟩ hg).2 dz Pd ρ' _ _ af _ U W Tc (hr.le hl hk) (aa.xx (gs':=(gs'.map _).setIfInBounds 0 _) hl hk he ai.world (by simp) (gO _)) (ac.le hl hK) (ho.mono hl) ai.stack (by simp[al])
  |@send S' dz U W w₁ es r r' v v' z' hg hl hp hk he=>
   obtain⟨f0,ap,cap,buf,gN,an,aq,_,_,am,hx,ad⟩:=hp.sU;have:=(am.lz r _ ((hr.le hl hk).mT r r' hp.ch)).1;rw[hx]at this;cases this;simp at ad
def oq.head{T:List Frame}{o:OF}{l:List Frame}(h:oq m T (o::os) l):∃O W,l=fY o.fn O o.td::W/\eD m o.tm O/\oq m T os W:=by
 cases h with
 |cons Y U=>exact⟨_,_,rfl,Y,U⟩
def vA(E:Env P)(os:List OF):Prop:=os≠[]\/∀ps,E.T=[ps]->ps.mode≠.panicking [bD]
def ui(O:vA E os)(h:oq m E.T os Tc):∀ps,Tc=[ps]->ps.mode≠.panicking [bD]:=by
 cases h with
 |nil=>
  rcases O with x|x
  exact absurd rfl x;exact x
 |cons W U=>
  rintro ps e;cases e;simp[fY]
def iZ.ret{v:Value}{ops:Array Oper}{i:Nat}{rest:List Nat}{o:Oper}(hi:ops[i]?=some o)(ao:S.cs=[door P])(hl:S.fr.leaving P S.w (.returned v))(h:dh E (⟨fn,eP o.dst tm v,.inRegion ops rest::k⟩::os) S.w V):iZ E S (⟨fn,tm,.inRegion ops (i::rest)::k⟩::os) V:=by
 intro m Pd ρ gs w sl t fr' cs' Tc ap aq ar aa ad h0;refine turn (Z:=E.Z) (a:=G fr' cs') (K:=λj=>(ρ j).sum) (N:=gs.size) rfl ?_ ρ gs w sl t aq (λ_=>rfl) h0 rfl;intro ρ' gs' w' a5 aj d t' O hK ak hN;obtain⟨hm,hd,hk,f,hf,U⟩:=hl;have hF:=ad.qE;rw[ao]at ad;have ae:=ui (E:=E) (.inl (by simp)) aa;obtain⟨W,l',rfl,ht,au⟩:=aa.head
 obtain⟨rfl,af⟩:cs'=fY fn W _::l'/\fr'.kind=.normal:=by
  cases ad with
  |one _ _ hb _=>
   refine⟨rfl,?_⟩;rcases hb with⟨x,_⟩|⟨_,ps,e,x⟩
   exact x;exact absurd x (ae ps e)
  |cons _ _ _ hx=>cases hx
 have Y:=hF.mode;have ab:=hF.defers;rw[hm]at Y;rw[hd]at ab;have av:=hF.fn;have al:=hF.tmps;obtain⟨a6,ag,ah,a7,a8,a9,ai⟩:=fr';cases Y;cases ab;subst af av;have am:=(mg (P:=P) (fn:=f) al).run _ _ #[] (O.main.tp _) (.inl (pA _ _))
 have aw:(bO f S.fr.tmps).run P (tp S.w (along S.w (w'.at d)))=.ok v (tp S.w (along S.w (w'.at d))):=by
  have an:=(mg (P:=P) (fn:=f) al).loc _ _ O.main;rcases an with⟨x,w₁,e,_⟩|⟨_,_,h3⟩
  rw[U]at e;cases e;have:=h3 (along S.w (w'.at d)) (by rw[U];intro i a b;simp only[Ez]at b;omega);rw[U]at this;exact this
 rw[aw]at am;obtain⟨dz,v',w₁,es₁,e1,e2,e3,e4,_,e6,e7⟩:=am;have ac:=jd fn W ops i rest k v';simp only[hi,cI]at ac
 have ax:b7 P true (G ⟨S.fr.fn,ag,ah,[],.returning,.normal,ai⟩ (fY fn W (.inRegion ops (i::rest)::k)::l')) (w'.at d)=.go (G (fY fn (eP o.dst W v') (.inRegion ops rest::k)) l') w₁ (bP P S.fr.fn es₁):=by
  have:b7 P true (G ⟨S.fr.fn,ag,ah,[],.returning,.normal,ai⟩ (fY fn W (.inRegion ops (i::rest)::k)::l')) (w'.at d)=bC P true ⟨S.fr.fn,ag,ah,[],.returning,.normal,ai⟩ _ none _:=rfl;rw[this];unfold bC;simp only[hf,e1];unfold bL;simp only[ac];simp[gn,G]
 have ay:=bY (P:=P) (sl:=aj) (i:=0) ak (show b7 P _ _ _=_ from ax);rw[ay];refine E.Z.next _ _ _ _ ?_;have az:=(bo.1 ak).1;exact(dh.tape (τ:=along S.w (w'.at d)) (wl:=S.w) (λm Pd ρ gs w sl t fr' cs' a b c d e=>h m Pd ρ gs w sl t fr' cs' a (b.tape _) c d e)) dz Pd ρ' _ _ aj _ _ _ (ap.le e2 e6) ((O.xx (gs':=(gs'.map _).setIfInBounds 0 _) e2 e6 (λe he=>e7 e (cr he)) e4 (by simp) (gO _)).tape _) (ar.le e2 hK) (.cons (o:=⟨fn,eP _ tm v,.inRegion ops rest::k⟩) ((ht.mono e2).eP _ e3) (au.mono e2)) (by simp[az])
end
variable {ars:Array Operand} {ts:Array bJ} {tm1:Array Value} {c:Code} {gP:Func} {f f1:bA} {v:Value}
section
variable {P:Program} {E:Env P} {fn:bA} {tm:Array Value} {os:List OF} {wl:World} {V:List (Nat×Option (List Value))} {k:List Item}
def Gg(P:Program)(W:P.funcs[f]?=some gP)(hb:gP.body=some c)(Y:gP.name≠ "runtime.NumGoroutine") (ρ:Operand->Value) (O:ρ (.func f)=.func (.func f) #[] #[]) {o:Oper} (ho:o.op=.call {callee:=.value (.func f),args:=ars,argTypes:=ts}) (w:World):(bE ρ o).runT P w #[]=(.ok (.enter f (ars.map ρ)) w,#[]):=by
 obtain⟨d,op,ty,ps,af,g⟩:=o;subst ho;have U:(gP.name == "runtime.NumGoroutine")=false:=by simpa using Y
 have e:bE ρ ⟨d,.call {callee:=.value (.func f),args:=ars,argTypes:=ts},ty,ps,af,g⟩=callFunc f ((#[]++ars.map ρ)++#[]):=by
  simp only[bE,resolve,O,Deferred.ofValue,invoke];rfl
 rw[e,bz];unfold callFunc;have e2:∀k:Program->Sem Go.Next,(program >>= k).runT P w #[]=(k P).runT P w _:=λk=>rfl;rw[e2];simp only[W,U,hb,et,if_false,Option.isNone_some];rfl
def dh.outer{i:Nat}{rest:List Nat}{o:Oper}(hi:ops[i]?=some o)(aa:fk o (b9 ops tm)=true)(hf:P.funcs[f]?=some gP)(hb:gP.body=some c)(hn:gP.name≠ "runtime.NumGoroutine") (ho:o.op=.call {callee:=.value (.func f),args:=ars,argTypes:=ts}) (ab:∀x∈ars.toList,dQ E.fF E.gl x)
  (h:dh E (⟨f,ars.map (iW tm)++bq (gP.ntmps-ars.size) hQ,[.code c]⟩::⟨fn,tm,.inRegion ops (i::rest)::k⟩::os) wl V):dh E (⟨fn,tm,.inRegion ops (i::rest)::k⟩::os) wl V:=by
 refine dh.step (N:=λo w=>dh E o w V) (λm w fr' cs' hr U hw=>?_) (λo w h=>h);have W:=U
 cases U with
 |@cons _ _ O l ht ae=>
  have hy:fk o (b9 ops O)=true:=by rw[show b9 ops O=b9 ops tm from funext (mu ops ht)];exact aa
  have ac:=ml (P:=P) (fn:=fn) (k:=k) (rest:=rest) (cs':=cs') (w:=w) hi hy;have Y:=Gg P hf hb hn (iW O) rfl ho w;have ha:=kO (fF:=m.fF) (gl:=E.gl) (λx hx=>Lo ht hr.qf.po x hx) (λx hx=>by rw[hr.fF];exact ab x hx)
  have ad:fB P true (fY fn O (.inRegion ops (i::rest)::k)) cs' none (bE (iW O) o) w=.go (G (fY f (ars.map (iW O)++bq (gP.ntmps-ars.size) hQ) [.code c]) (fY fn O (.inRegion ops (i::rest)::k)::cs')) w #[]:=by
   unfold fB;simp only[if_true,Y];simp[gn,G,fY,g8,hf,hb,bP]
  exact⟨m,_,_,w,#[],_,wl,ac.trans ad,.refl m,.refl m w,by simp,.cons (o:=⟨f,ars.map _++bq _ hQ,[.code c]⟩) (ha.append (.replicate _ (.undef m))) W,hw,h⟩
def LQ{m:Ren}{Pd:Nat->Prop}{ρ:Nat->eG}{gs:Array Goroutine}{w:World}{sl:Option (Nat×Nat)}{t:bB}{U:Array Value}{td1:List Item}{l':List Frame}{i:Nat}{rest:List Nat}{o:Oper}{O:Array Value}{f:Func}
  (ae:Rg E m) (af:Co P E.fK E.w0 Pd ρ m wl gs w t) (ag:SJ m ρ Pd V) (ah:eD m tm1 U) (ht:eD m tm O) (ai:oq m E.T os l') (hf:P.funcs[f1]?=some f) (hi:ops[i]?=some o) (aa:∀τ,(bO f tm1).run P (tp wl τ)=.ok v (tp wl τ))
  (h0:gs[0]?=some (G ⟨f1,U,td1,[],.returning,.normal,none⟩ (fY fn O (.inRegion ops (i::rest)::k)::l'))) (h:dh E (⟨fn,eP o.dst tm v,.inRegion ops rest::k⟩::os) wl V):E.Z.Up (cb gs w sl) t:=by
 refine turn (Z:=E.Z) (a:=G ..) (K:=λj=>(ρ j).sum) (N:=gs.size) rfl ?_ ρ gs w sl t af (λ_=>rfl) h0 rfl;intro ρ' gs' w' am ab d t' W hK ac hN;have ad:=(mg (P:=P) (fn:=f) ah).run _ _ #[] (W.main.tp _) (.inl (pA wl _));rw[aa]at ad;obtain⟨dz,v',w₁,es₁,e1,e2,e3,e4,_,e6,e7⟩:=ad;have Y:=jd fn O ops i rest k v';simp only[hi,cI]at Y
 have aj:b7 P true (G ⟨f1,U,td1,[],.returning,.normal,none⟩ (fY fn O (.inRegion ops (i::rest)::k)::l')) (w'.at d)=.go (G (fY fn (eP o.dst O v') (.inRegion ops rest::k)) l') w₁ (bP P f1 es₁):=by
  have:b7 P true (G ⟨f1,U,td1,[],.returning,.normal,none⟩ (fY fn O (.inRegion ops (i::rest)::k)::l')) (w'.at d)=bC P true ⟨f1,U,td1,[],.returning,.normal,none⟩ _ none _:=rfl;rw[this];unfold bC;simp only[hf,e1];unfold bL;simp only[Y];simp[gn,G]
 have ak:=bY (P:=P) (sl:=ab) (i:=0) ac (show b7 P .. = _ from aj);rw[ak];refine E.Z.next _ _ _ _ ?_;have al:=(bo.1 ac).1;exact h dz Pd ρ' _ _ ab _ _ _ (ae.le e2 e6) ((W.xx (gs':=(gs'.map _).setIfInBounds 0 _) e2 e6 (λe he=>e7 e (cr he)) e4 (by simp) (gO _)).tape _) (ag.le e2 hK) (.cons (o:=⟨fn,eP _ tm v,.inRegion ops rest::k⟩) ((ht.mono e2).eP _ e3) (ai.mono e2)) (by simp[al])
def dh.back{td1:List Item}{i:Nat}{rest:List Nat}{o:Oper}{f:Func}(ac:td1=[]\/∃k1,td1=.code .ret::k1)(hf:P.funcs[f1]?=some f)(hi:ops[i]?=some o)(W:∀τ,(bO f tm1).run P (tp wl τ)=.ok v (tp wl τ))
  (h:dh E (⟨fn,eP o.dst tm v,.inRegion ops rest::k⟩::os) wl V):dh E (⟨f1,tm1,td1⟩::⟨fn,tm,.inRegion ops (i::rest)::k⟩::os) wl V:=by
 intro m Pd ρ gs w sl t fr' cs' ad ae af O h0;refine turn (Z:=E.Z) (a:=G fr' cs') (K:=λj=>(ρ j).sum) (N:=gs.size) rfl ?_ ρ gs w sl t ae (λ_=>rfl) h0 rfl;intro ρ' gs' w' am ag d t' U hK Y hN
 cases O with
 |@cons _ _ aa l ah O=>
  obtain⟨ab,l',rfl,ht,ai⟩:=O.head
  have aj:b7 P true (G (fY f1 aa td1) (fY fn ab (.inRegion ops (i::rest)::k)::l')) (w'.at d)=.go (G ⟨f1,aa,td1,[],.returning,.normal,none⟩ (fY fn ab (.inRegion ops (i::rest)::k)::l')) (w'.at d) #[]:=by
   rcases ac with rfl|⟨k1,rfl⟩<;>rfl
  have ak:=bY (P:=P) (sl:=ag) (i:=0) Y (show b7 P .. = _ from aj);rw[ak];refine E.Z.next _ _ _ _ ?_;have al:=(bo.1 Y).1;exact LQ (td1:=td1) ad (U.xx (gs':=(gs'.map _).setIfInBounds 0 _) (.refl m) (.refl m _) (by simp) U.main (by simp) (gO _)) (af.le (.refl m) hK) ah ht ai hf hi W (by simp[al]) h
end
section
variable {P:Program} {Post:Value->World->Prop}
def ux(P:Program)(Post:Value->World->Prop)(M:Machine)(t:bB):Prop:=∃N last o w' t',runNT P (N+1) M t=(.ended o w',t')/\bF P N M=.next last/\step P last=.ended o w'/\Good P Post last o w' t'
def Cz{M:Machine}{r:Stepped}{ops:Array MemOp}(h:bS P M=(r,ops)):step P M=r:=by unfold step;rw[h]
def ending(P:Program)(Post:Value->World->Prop):jj P where
 Up:=ux P Post
 Fin:=λM r t=>match r with
  |(.next O,ops)=>ux P Post O (t++ops)|(.ended o w',ops)=>Good P Post M o w' (t++ops)
 back:=by
  intro M t h
  rcases hs:bS P M with⟨r,ops⟩
  rw[hs]at h
  cases r with
  |next O=>
   obtain⟨N,last,o,w',t',U,W,Y,h4⟩:=h
   refine⟨N+1,last,o,w',t',?_,?_,Y,h4⟩
   .rw[runNT,hs];exact U
   .simp only[bF,Cz hs];exact W
  |ended o w'=>exact⟨0,M,o,w',t++ops,by rw[runNT,hs],rfl,Cz hs,h⟩
 next:=λ_ _ _ _ h=>h
variable {fK:Nat->Prop} {w0:World} {Pd:Nat->Prop} {ρ:Nat->eG} {m:Ren} {wl:World} {gs:Array Goroutine} {w:World} {t:bB}
def Co.over(h:Co P fK w0 Pd ρ m wl gs w t)(O:∀i,(ρ i).sum=none):mw t λ_=>False:=h.kQ.mono λi hi=>absurd (O i) hi
def Co.lv(h:Co P fK w0 Pd ρ m wl gs w t)(Y:∀i,(ρ i).sum=none){i:Nat}{g:Goroutine}(hi:0<i)(hg:gs[i]?=some g):∃q,Lv P q g:=by
 have U:=h.at_ i g hi hg;have W:=Y i
 cases O:ρ i with
 |quit q=>rw[O]at U;exact⟨q,U⟩|ended hd J m S q=>rw[O]at U;exact⟨q,U.1⟩|act=>rw[O]at W;cases W
 |j0=>rw[O]at W;cases W
 |start=>rw[O]at W;cases W
def iZ.done{E:Env P}(hZ:E.Z=ending P Post)(hT:E.T=[]){S:LS}(an:S.cs=[door P])(hl:S.fr.leaving P S.w (.returned v))(ao:P.inits.idxOf? S.fr.fn=none)
  (af:∀m v' w,Rg E m->VR m v v'->WR m S.w w->(∀b,E.fK b->w.heap[b]?=E.w0.heap[b]?)->(w.os=E.w0.os/\w.output=E.w0.output)->Post v' w):iZ E S [] []:=by
 intro m Pd ρ gs w sl t fr' cs' Tc ap aq ar aj ag h0
 have hn:∀i,(ρ i).sum=none:=by
  intro i
  cases e:(ρ i).sum with
  |none=>rfl|some x=>
   obtain⟨r,vs,hx,_⟩:=ar.only i x.1 x.2 e;cases hx
 refine turn (Z:=E.Z) (a:=G fr' cs') (K:=λj=>(ρ j).sum) (N:=gs.size) rfl ?_ ρ gs w sl t aq (λ_=>rfl) h0 rfl;intro ρ' gs' w' au av d t' U hK aw hN;have ah:∀i,(ρ' i).sum=none:=λi=>(hK i).trans (hn i);obtain⟨hm,hd,hk,f,hf,W⟩:=hl;have hF:=ag.qE;rw[an]at ag
 obtain rfl:Tc=[]:=by
  cases aj;exact hT
 obtain⟨rfl,ai⟩:cs'=[]/\fr'.kind=.normal:=by
  cases ag with
  |one _ _ hb _=>
   refine⟨rfl,?_⟩;rcases hb with⟨x,_⟩|⟨_,ps,e,x⟩
   exact x
   cases e
  |cons _ _ _ hx=>cases hx
 have Y:=hF.mode;have ae:=hF.defers;rw[hm]at Y;rw[hd]at ae;have ax:=hF.fn;have ak:=hF.tmps;obtain⟨a6,aa,ab,a7,a8,a9,ac⟩:=fr';cases Y;cases ae;subst ai ax;have al:=(mg (P:=P) (fn:=f) ak).run _ _ #[] (U.main.tp _) (.inl (pA _ _))
 have ay:(bO f S.fr.tmps).run P (tp S.w (along S.w (w'.at d)))=.ok v (tp S.w (along S.w (w'.at d))):=by
  have am:=(mg (P:=P) (fn:=f) ak).loc _ _ U.main;rcases am with⟨x,w₁,e,_⟩|⟨_,_,h3⟩
  rw[W]at e;cases e;have:=h3 (along S.w (w'.at d)) (by rw[W];intro i a b;simp only[Ez]at b;omega);rw[W]at this;exact this
 rw[ay]at al;obtain⟨dz,v',w₁,es₁,e1,e2,e3,e4,_,e6,e7⟩:=al
 have az:b7 P true (G ⟨S.fr.fn,aa,ab,[],.returning,.normal,ac⟩ []) (w'.at d)=.ended (.done v') w₁ (bP P S.fr.fn es₁):=by
  have:b7 P true (G ⟨S.fr.fn,aa,ab,[],.returning,.normal,ac⟩ []) (w'.at d)=bC P true ⟨S.fr.fn,aa,ab,[],.returning,.normal,ac⟩ [] none _:=rfl;rw[this];unfold bC;simp only[hf,e1];unfold bL;simp[gn,ao]
 have a5:=runT_many_ended (P:=P) (sl:=av) (i:=0) aw (show b7 P _ _ _=_ from az);rw[a5,hZ];have O:=U.xx (gs':=gs') (fn:=S.fr.fn) (pos:=(G (⟨S.fr.fn,aa,ab,[],.returning,.normal,ac⟩) []).frame.place) e2 e6 (es:=bP P S.fr.fn es₁) (λe he=>e7 e (cr he)) e4 rfl (λj x _ hx=>⟨x,hx,λ_=>rfl⟩);have ad:=ap.le e2 e6;refine⟨v',rfl,af dz v' w₁ ad e3 (e4.tp _) (λb hb=>(O.fix b hb).2) O.os,O.clean,(O.over ah).over,⟨λx hx=>?_,rfl⟩,λj x hx hj=>?_⟩;obtain⟨j,hj⟩:=cS.1 hx;rw[List.getElem?_drop]at hj;obtain⟨q,hq⟩:=O.lv ah (i:=1+j) (by omega) (by simpa[cb]using hj);exact⟨_,hq.EX.leaves⟩;obtain⟨q,hq⟩:=O.lv ah (i:=j) (by omega) hx;refine⟨q,?_⟩
 have e:∀u,l8 u->g6 P (cb gs' w' au).world q x (u.deaf j u.size)=some 0:=λu hu=>by
  rw[hu.deaf j _];exact hq.EX.hears _
 exact e _ O.hears
end
end
section
open Go.Conc
open Go.ConcN (upd upd_same upd_ne)
section
variable {P:Program} {fK:Nat->Prop} {w0:World} {Pd:Nat->Prop} {ρ:Nat->eG} {m m₂:Ren} {wl wl₂:World} {gs gs':Array Goroutine} {w w₁:World} {t:bB}
def Nz{h:Array Obj}{o x:Obj}{r:Nat}(O:h[r]?=some x):(h.push o)[r]?=h[r]?:=eU (jY O)
def Co.made(h:Co P fK w0 Pd ρ m wl gs w t)(U:w₁={w with heap:=w.heap.push (.chan 0 #[] false 0 0 false)})(ab:WR m₂ wl₂ w₁)(hb:m₂.blk=m.blk)(hl:m₂.loose=m.loose)(ac:gs'.size=gs.size)
  (ad:∀j x,0<j->gs'[j]?=some x->∃y,gs[j]?=some y/\(At P w₁ t j y (ρ j)->x=y)):Co P fK w0 (λc=>Pd c\/c=w.heap.size) ρ m₂ wl₂ gs' w₁ t:=by
 subst U;have O:w.heap.size<=(w.heap.push (.chan 0 #[] false 0 0 false)).size:=by simp
 have hrel:∀j y,0<j->gs[j]?=some y->At P {w with heap:=w.heap.push (.chan 0 #[] false 0 0 false)} t j y (ρ j):=by
  intro j y hj hy
  have:=(h.at_ j y hj hy).rely (w₁:={w with heap:=w.heap.push _}) (u:=#[]) (λm' W r b hb=>by
   obtain⟨wl',ae⟩:=h.wr W
   exact eU (ae.lt hb).2) (λJ hJ=>by
   obtain⟨cl,s,r,Y⟩:=h.is hJ
   exact Nz Y) O rfl (by simp)
  simpa using this
 refine⟨ab,λj x aa Y=>?_,λj hj=>h.out j (by rw[<-ac];exact hj),λi m' W=>?_,h.dd,h.cc,?_,h.ss,h.LI,λp a b ha hb=>da (h.low p a b ha hb) O,h.hears,h.kQ,h.clean,λb hb=>?_,λr b hr hf=>?_,h.ff,h.cx,dc h.sz O,h.os,h.kn,λc hc=>?_,h.len⟩;obtain⟨y,hy,af⟩:=ad j x aa Y;have:=hrel j y aa hy;rw[af this];exact this;have:=h.d0 i m' W;unfold ol at this⊢;rw[hb,hl];exact this;have:=h.s0;unfold nO at this⊢;rw[hb,hl];exact this;obtain⟨h1,h2⟩:=h.fix b hb;exact⟨da h1 O,by rw[<-h2];exact eU h1⟩;rw[hb]at hr;rw[hl];exact h.f0 r b hr hf;rcases hc with hc|rfl
 obtain⟨⟨s,r,h1⟩,h2,h3,h4⟩:=h.pd c hc;exact⟨⟨s,r,iU h1⟩,h2,h3,h4⟩;refine⟨⟨0,0,by simp⟩,λp a ha hb=>?_,λi J hJ e=>?_,λhf=>?_⟩;have:=h.low p a _ ha hb;omega;obtain⟨cl,s,r,Y⟩:=h.is hJ;have:=jY Y;omega;have:=(h.fix _ hf).1;omega
def N0(h:Array Obj)(o:Obj):(h.push o).setIfInBounds h.size o=h.push o:=by
 apply Array.ext_getElem?;intro j;by_cases e:h.size=j;subst e;simp;rw[a4 e]
def Co.spawn{Fix₂ Pd₂:Nat->Prop}{J:mW}{mi:Ren}{S:LS}{k:Nat}{g' child:Goroutine}{a b:MemOp}(h:Co P fK w0 Pd ρ m wl gs w t)(h0:0<gs.size)(hF:∀b,Fix₂ b->fK b)(hP:∀c,Pd₂ c->Pd c/\c≠J.c)(hJ:Pd J.c)
  (ha:a.g=0) (ad:a.act=.go gs.size) (hb:b.g=gs.size) (ae:b.act=.start) (aj:WR m₂ wl₂ w) (ac:∀r q,m₂.blk r=some q->∃r0,m.blk r0=some q/\(m.loose r0->m₂.loose r))
  (ag:∀r q,mi.blk r=some q->(∃r0,m.blk r0=some q/\(m.loose r0->mi.loose r))\/(fK q/\(∀r0,m.blk r0≠some q)/\∀j m' r',(ρ j).nj=some m'->m'.blk r'≠some q)) (ak:ol m₂ mi) (al:∀r q,mi.blk r=some q->Fix₂ q->mi.loose r) (ah:∀b,fK b->Fix₂ b\/∃r o,J.l6 r b o/\w0.heap[b]?=some o)
  (am:At P w (t++#[a,b]) gs.size child (.start J mi S k)) :
  Co P Fix₂ w0 Pd₂ (cO ρ gs.size (.start J mi S k)) m₂ wl₂ ((gs.setIfInBounds 0 g').push child) w (t++#[a,b]):=by
 have hold:ρ gs.size=.quit 0:=h.out _ (.inr (db _))
 have hu:∀op∈(#[a,b]:Array MemOp),op.act.touch?=none:=by
  intro op Y;simp only[cT,cP,cQ,or_false]at Y;rcases Y with rfl|rfl
  rw[ad];rfl;rw[ae];rfl
 have hh:l8 (t++#[a,b]):=h.hears.append λop Y=>by
  simp only[cT,cP,cQ,or_false]at Y;rcases Y with rfl|rfl
  rw[ad];simp;rw[ae];simp
 obtain⟨au,an,ai,ao⟩:=h.pd J.c hJ
 have di:∀j m',(ρ j).nj=some m'->ol mi m':=by
  intro j m' O r r' q W h2;rcases ag r q W with⟨r0,x,y⟩|⟨_,_,x⟩
  obtain⟨l1,l2⟩:=h.d0 j m' O r0 r' q x h2;exact⟨y l1,l2⟩;exact absurd h2 (x j m' r' O)
 have kr:∀j m',(cO ρ gs.size (.start J mi S k) j).nj=some m'->(j=gs.size/\m'=mi)\/(j≠gs.size/\(ρ j).nj=some m'):=λj m' U=>by
  by_cases e:j=gs.size;subst e;rw[cM]at U;cases U;exact .inl ⟨rfl,rfl⟩;rw[cN _ _ e]at U;exact .inr ⟨e,U⟩
 have kj:∀j J',(cO ρ gs.size (.start J mi S k) j).sY=some J'->(j=gs.size/\J'=J)\/(j≠gs.size/\(ρ j).sY=some J'):=λj J' U=>by
  by_cases e:j=gs.size;subst e;rw[cM]at U;cases U;exact .inl ⟨rfl,rfl⟩;rw[cN _ _ e]at U;exact .inr ⟨e,U⟩
 refine⟨aj,λj x ap U=>?_,λj hj=>?_,λj m' O=>?_,λj l m1 m2 ab W h2=>?_,λj l J1 J2 ab W h2=>?_,?_,λj m' O=>?_,λj J' aa p x U hq=>?_,λp x q U hq=>?_,hh,?_,λsaid=>?_,λq hq=>h.fix q (hF q hq),λr q hr hf=>?_,λj m' O r q hr hf=>?_,λj J' aa hf=>?_,h.sz,h.os,?_,λc hc=>?_,λb hb=>?_⟩;by_cases e:j=gs.size;subst e;rw[cM];have:((gs.setIfInBounds 0 g').push child)[gs.size]?=some child:=by rw[bw];simp
 rw[this]at U;cases U;exact am;rw[cN _ _ e]
 have av:j<gs.size:=by
  have:=(bo.1 U).1;simp at this;omega
 have:gs[j]?=some x:=by
  rw[bw]at U;simp only[Array.size_setIfInBounds]at U;rw[if_neg e,a4 (by omega)]at U;exact U
 exact(h.at_ j x ap this).rely (λ_ _ _ _ _=>rfl) (λ_ _=>rfl) (db _) rfl λop Y _=>hu op Y
 have ab:j≠gs.size:=by
  rcases hj with x|x
  omega;simp at x;omega
 rw[cN _ _ ab];exact h.out j (hj.imp id λx=>by simp at x;omega);rcases kr j m' O with⟨_,em⟩|⟨_,O⟩
 rw[em];exact ak;intro r r' q W h2;obtain⟨r0,x,y⟩:=ac r q W;obtain⟨l1,l2⟩:=h.d0 j m' O r0 r' q x h2;exact⟨y l1,l2⟩;rcases kr j m1 W with⟨ej,em⟩|⟨ej,x1⟩
 rcases kr l m2 h2 with⟨el,_⟩|⟨_,x2⟩
 exact absurd (ej.trans el.symm) ab;rw[em];exact di l m2 x2;rcases kr l m2 h2 with⟨el,em⟩|⟨_,x2⟩
 rw[em];exact(di j m1 x1).symm;exact h.dd j l m1 m2 ab x1 x2;rcases kj j J1 W with⟨ej,em⟩|⟨ej,x1⟩
 rcases kj l J2 h2 with⟨el,_⟩|⟨_,x2⟩
 exact absurd (ej.trans el.symm) ab;rw[em];exact gt (ai l J2 x2);rcases kj l J2 h2 with⟨el,em⟩|⟨_,x2⟩
 rw[em];exact ai j J1 x1;exact h.cc j l J1 J2 ab x1 x2;refine nO.mute (λp x q r U hq hr af=>?_) hu;obtain⟨r0,y,z⟩:=ac r q hr;exact h.s0 p x q r0 U hq y λl=>af (z l);by_cases e:j=gs.size;subst e;rw[cM]at O;cases O;intro p x q r U hq hr af;rcases eh U with⟨_,W⟩|⟨op,W,_,h3⟩
 refine GP hh ha ad hb ae ?_;rcases ag r q hr with⟨r0,y,z⟩|⟨y,_,z⟩
 exact h.s0 p x q r0 W hq y λl=>af (z l);rcases h.kn p x q W hq y with v|⟨j',m',r',v1,v2⟩
 exact v;exact absurd v2 (z j' m' r' v1);rw[hu op W]at h3;cases h3;rw[cN _ _ e]at O;exact(h.ss j m' O).mute hu;rcases eh U with⟨_,W⟩|⟨op,W,_,h3⟩
 rcases kj j J' (eG.u9 aa)with⟨_,em⟩|⟨e,_⟩
 rw[em]at hq;exact an p x W hq;rw[cN _ _ e]at aa;exact h.LI j J' aa p x W hq;rw[hu op W]at h3;cases h3;rcases eh U with⟨_,W⟩|⟨op,W,_,h3⟩
 exact h.low p x q W hq;rw[hu op W]at h3;cases h3;refine(h.kQ.mono λj hj=>?_).app λop Y=>.inl (hu op Y);by_cases e:j=gs.size;subst e;rw[hold]at hj;exact absurd rfl hj;rw[cN _ _ e];exact hj;have:=rW (u:=[a,b]) (by simpa using hu) (h.clean said);simpa using this;obtain⟨r0,y,z⟩:=ac r q hr;exact z (h.f0 r0 q y (hF q hf));rcases kr j m' O with⟨_,em⟩|⟨_,O⟩
 rw[em]at hr⊢;exact al r q hr hf;exact h.ff j m' O r q hr (hF q hf);rcases kj j J' aa with⟨_,em⟩|⟨_,aa⟩
 rw[em]at hf;exact ao (hF _ hf);exact h.cx j J' aa (hF _ hf);intro p x q U hq hf;have hk:Kn fK (cO ρ _ (.start J mi S k)) _:=h.kn.app (λj m' r q O hq=>⟨j,m',r,by rw[cN _ _ (by rintro rfl;rw[hold]at O;cases O)];exact O,hq⟩) λop Y x q U _ _=>by rw[hu op Y]at U;cases U
 exact hk p x q U hq (hF q hf);obtain⟨aq,ar⟩:=hP c hc;obtain⟨g1,g2,g3,g4⟩:=h.pd c aq;refine⟨g1,λp x U hq=>?_,λj J' aa=>?_,λhf=>g4 (hF c hf)⟩;rcases eh U with⟨_,W⟩|⟨op,W,_,h3⟩
 exact g2 p x W hq;rw[hu op W]at h3;cases h3;rcases kj j J' aa with⟨_,em⟩|⟨_,aa⟩
 rw[em];exact gt ar;exact g3 j J' aa;rcases h.len b hb with x|⟨j,J',r,o,x1,x2⟩|z
 rcases ah b x with y|⟨r,o,y1,y2⟩
 exact .inl y;exact .inr (.inl ⟨gs.size,J,r,o,by rw[cM];rfl,y1,y2⟩);exact .inr (.inl ⟨j,J',r,o,by rw[cN _ _ (by rintro rfl;rw[hold]at x1;cases x1)];exact x1,x2⟩);exact .inr (.inr z)
end
end
section
open Go.Conc
open Go.ConcN (upd upd_same upd_ne)
variable {ops:Array Oper}
def kS:Obj:=.chan 0 #[] false 0 0 false
section
variable {P:Program} {E:Env P} {fn:bA} {tm:Array Value} {os:List OF} {wl:World} {V:List (Nat×Option (List Value))} {k:List Item}
def dh.makeChan{i:Nat}{rest:List Nat}{o:Oper}(hi:ops[i]?=some o)(aj:fk o (b9 ops tm)=true)
  (ak:∀(O:Array Value)(w:World),(bE (iW O) o).runT P w #[]=(.ok (.value (.chan (some w.heap.size))) {w with heap:=w.heap.push (.chan 0 #[] false 0 0 false)},#[]))
  (h:dh E (⟨fn,eP o.dst tm (.chan (some wl.heap.size)),.inRegion ops rest::k⟩::os) {wl with heap:=wl.heap.push kS} ((wl.heap.size,none)::V)):dh E (⟨fn,tm,.inRegion ops (i::rest)::k⟩::os) wl V:=by
 intro m Pd ρ gs w sl t fr' cs' W al am af h0;refine turn (Z:=E.Z) (a:=G fr' cs') (K:=λj=>(ρ j).sum) (N:=gs.size) rfl ?_ ρ gs w sl t al (λ_=>rfl) h0 rfl;intro ρ' gs' w' aw ag d t' ab hK ah hN
 cases af with
 |@cons _ _ O l ht an=>
  have hy:fk o (b9 ops O)=true:=by rw[show b9 ops O=b9 ops tm from funext (mu ops ht)];exact aj
  have ao:=ml (P:=P) (fn:=fn) (k:=k) (rest:=rest) (cs':=cs') (w:=w'.at d) hi hy;have ac:=jd fn O ops i rest k (.chan (some (w'.at d).heap.size));simp only[hi,cI]at ac
  have ap:fB P true (fY fn O (.inRegion ops (i::rest)::k)) cs' none (bE (iW O) o) (w'.at d)=.go (G (fY fn (eP o.dst O (.chan (some (w'.at d).heap.size))) (.inRegion ops rest::k)) cs') {w'.at d with heap:=(w'.at d).heap.push (.chan 0 #[] false 0 0 false)} #[]:=by
   unfold fB;simp only[if_true,ak,ac];simp[gn,G,fY,bP]
  have aq:=bY (P:=P) (sl:=ag) (i:=0) ah (show b7 P (0==0) _ (w'.at d)=_ from ao.trans ap);have e0:∀f p,dk 0 f p #[]=#[]:=λf p=>by rw[cg];simp
  rw[aq,e0];refine E.Z.next _ _ _ _ ?_;have ar:=(bo.1 ah).1;have ae:=ab.main;let dz:=m.tE _ _ ae.qx ae.nT;let m₂:=dz.put wl.heap.size kS;have U:m.Le m₂:=(Ren.yj _ _).trans (Ren.oS dz ..)
  have au:WR m₂ {wl with heap:=wl.heap.push kS} {w'.at d with heap:=(w'.at d).heap.push (.chan 0 #[] false 0 0 false)}:=by
   have:=(ae.Qf kS (.chan 0 #[] false 0 0 false)).put (r:=wl.heap.size) (o:=kS) ⟨_,_,_,_,_,_,rfl⟩ ⟨0,#[],false,0,0,false,by simp[kS]⟩;have e:({wl with heap:=wl.heap.push kS})={({wl with heap:=wl.heap.push kS})with heap:=(wl.heap.push kS).setIfInBounds wl.heap.size kS}:=by rw[N0]
   rw[e];exact this
  have ad:m₂.ch wl.heap.size=some (w'.at d).heap.size:=by simp[m₂,dz,Ren.put,Ren.tE]
  have aa:Rg E m₂:=by
   refine⟨W.qf.mono U,by exact W.iq,λr r' hr=>?_,U.fF.trans W.fF,U.ok.trans W.Um,E.le m m₂ U W.x⟩;by_cases e:r=wl.heap.size;subst e;simp[m₂,Ren.put,kS];have av:=by simpa[m₂,dz,Ren.put,Ren.tE,e]using hr
   simpa[m₂,dz,Ren.put,Ren.tE,e]using W.mT r r' av
  have ai:=ab.made (m₂:=m₂) (gs':=(gs'.map (woken P (G (fY fn O (.inRegion ops (i::rest)::k)) cs') (G (fY fn (eP o.dst O (.chan (some (w'.at d).heap.size))) (.inRegion ops rest::k)) cs') _)).setIfInBounds 0 _) rfl au rfl rfl (by simp) (gO _);have Y:=am.le U hK;refine h m₂ _ ρ' _ _ ag _ _ _ aa ai ⟨λr vs hr=>?_,λi J n hi=>?_,λr hr=>?_⟩ (.cons (o:=⟨fn,eP _ tm _,.inRegion ops rest::k⟩) ((ht.mono U).eP _ (.chan ad)) (an.mono U)) (by simp[ar]);exact Y.all r vs (by simpa using hr);obtain⟨r,vs,x,y⟩:=Y.only i J n hi;exact⟨r,vs,by simp[x],y⟩;simp only[cP,Prod.mk.injEq,and_true]at hr;rcases hr with rfl|hr
  exact⟨_,ad,.inr rfl⟩;obtain⟨c,x,y⟩:=Y.Mu r hr;exact⟨c,x,.inl y⟩
structure Sends(E E₂:Env P)(f:bA)(caps:Array Value)(os Vp:List OF)(wl wl₂:World)(rc:Nat)(L:List Value):Prop where
 z:E₂.Z=E.Z
 t:E₂.T=E.T
 w:E₂.w0=E.w0
 fix:∀b,E₂.fK b->E.fK b
 flat:∀v∈L,∀(m:Ren)v',VR m v v'->v'=v
 go:∀m caps' w c,Rg E m->eD m caps caps'->WR m wl w->m.ch rc=some c->gE w c false->(∀b,E.fK b->w.heap[b]?=E.w0.heap[b]?)->∃(J:mW)(mi:Ren)(S:LS)(k:Nat)(m₂:Ren),J.c=c/\J.L=L/\J.Ok P/\J.Ren mi/\mc P J.Stop S/\Holds S J.r []/\WR mi S.w w/\rL P J mi S k (lD P ⟨.fn (.func f) caps',#[]⟩)/\
  Rg E₂ m₂/\WR m₂ wl₂ w/\m₂.ch=m.ch/\(∀l,oq m E.T os l->oq m₂ E.T Vp l)/\(∀r q,m₂.blk r=some q->∃r0,m.blk r0=some q/\(m.loose r0->m₂.loose r))/\
  (∀r q,mi.blk r=some q->(∃r0,m.blk r0=some q/\(m.loose r0->mi.loose r))\/(E.fK q/\(∀r0,m.blk r0≠some q)/\¬E₂.fK q))/\ol m₂ mi/\(∀r q,mi.blk r=some q->E₂.fK q->mi.loose r)/\(∀b,E.fK b->E₂.fK b\/∃r o,J.l6 r b o/\E.w0.heap[b]?=some o)
def Ef(P:Program)(f:bA)(cx:Array Operand)(ρ:Operand->Value){o:Oper}(O:o.op=.makeFunc (.func f) #[] cx)(w:World):(bE ρ o).runT P w #[]=(.ok (.value (.func (.func f) #[] (cx.map ρ))) w,#[]):=by
 obtain⟨d,op,U,ps,W,g⟩:=o;subst O;have e:bE ρ ⟨d,.makeFunc (.func f) #[] cx,U,ps,W,g⟩=(Instr.makeFunc .. >>= λv=>pure _):=rfl;have Y:(#[]).map ρ=#[]:=by simp
 rw[e,Y];rfl
def Tu(P:Program)(f:bA)(q:Tmp)(cap:Array Value)(ρ:Operand->Value){o:Oper}(O:o.op=.go {callee:=.value (.tmp q),args:=#[],argTypes:=#[]})(U:ρ (.tmp q)=.func (.func f) #[] cap)(w:World):(bE ρ o).runT P w #[]=(.ok (.spawn ⟨.fn (.func f) cap,#[]⟩) w,#[]):=by
 obtain⟨d,op,W,ps,Y,g⟩:=o;subst O;have e2:(#[]).map ρ=#[]:=by simp
 have e:bE ρ ⟨d,.go {callee:=.value (.tmp q),args:=#[],argTypes:=#[]},W,ps,Y,g⟩=(Deferred.ofValue .. >>= λd=>pure _):=rfl;rw[e,e2,U];rfl
def dh.go{E₂:Env P}{i j:Nat}{rest:List Nat}{oi oj:Oper}{f:bA}{q:Tmp}{cx:Array Operand}{aa:List OF}{wl₂:World}{rc:Nat}{L:List Value}{V₂:List (Nat×Option (List Value))}(hi:ops[i]?=some oi)(hj:ops[j]?=some oj)(gi:oi.guard=none)(gj:oj.guard=none)(aH:oi.op=.makeFunc (.func f) #[] cx)(aI:oi.dst=some q)(aJ:oj.op=.go {callee:=.value (.tmp q),args:=#[],argTypes:=#[]})(aK:oj.dst=none)(aL:∀x∈cx.toList,dQ E.fF E.gl x)(aM:q<tm.size)
  (hS:Sends E E₂ f (cx.map (iW tm)) (⟨fn,tm.setIfInBounds q (.tuple #[]),.inRegion ops rest::k⟩::os) aa wl wl₂ rc L) (ao:∀q,E.fK q->¬E₂.fK q->∀m Pd ρ gs w t,Rg E m->Co P E.fK E.w0 Pd ρ m wl gs w t->SJ m ρ Pd V->∀j m' r',(ρ j).nj=some m'->m'.blk r'≠some q)
  (hV:(rc,none)∈V) (ab:∀x∈V₂,x=(rc,some L)\/(x∈V/\x≠(rc,none))) (ap:(rc,some L)∈V₂) (aq:∀r vs,(r,some vs)∈V->(r,some vs)∈V₂)
  (h:dh E₂ aa wl₂ V₂):dh E (⟨fn,tm,.inRegion ops (i::j::rest)::k⟩::os) wl V:=by
 intro m Pd ρ gs w sl t fr' cs' ah aN ac ad h0;refine turn (Z:=E.Z) (a:=G fr' cs') (K:=λj=>(ρ j).sum) (N:=gs.size) rfl ?_ ρ gs w sl t aN (λ_=>rfl) h0 rfl;intro a7 ar w1 ba al d1 t1 ae aO au bc
 cases ad with
 |@cons _ _ O l ht aP=>
  have aQ:∀af:Array Value,fk oi (b9 ops af)=true:=λ_=>by simp[fk,gi]
  have aR:∀af:Array Value,fk oj (b9 ops af)=true:=λ_=>by simp[fk,gj]
  have av:=ml (P:=P) (fn:=fn) (k:=k) (rest:=j::rest) (cs':=cs') (w:=w1.at d1) hi (aQ O);have W:=jd fn O ops i (j::rest) k (.func (.func f) #[] (cx.map (iW O)));simp only[hi,cI,aI,eP]at W
  have aw:fB P true (fY fn O (.inRegion ops (i::j::rest)::k)) cs' none (bE (iW O) oi) (w1.at d1)=.go (G (fY fn (O.setIfInBounds q (.func (.func f) #[] (cx.map (iW O)))) (.inRegion ops (j::rest)::k)) cs') (w1.at d1) #[]:=by
   unfold fB;simp only[if_true,Ef P f cx (iW O) aH,W];simp[gn,G,fY,bP]
  have ai:=bY (P:=P) (sl:=al) (i:=0) au (show b7 P (0==0) _ (w1.at d1)=_ from av.trans aw);rw[ai];refine E.Z.next _ _ _ _ ?_;have a8:0<ar.size:=(bo.1 au).1;refine turn (Z:=E.Z) (a:=G (fY fn (O.setIfInBounds q (.func (.func f) #[] (cx.map (iW O)))) (.inRegion ops (j::rest)::k)) cs') (K:=λj=>(a7 j).sum) (N:=ar.size) rfl ?_ a7 _ _ al _ (ae.xx (gs':=(ar.map (woken P _ _ (w1.at d1))).setIfInBounds 0 (G (fY fn (O.setIfInBounds q (.func (.func f) #[] (cx.map (iW O)))) (.inRegion ops (j::rest)::k)) cs')) (.refl m) (.refl m _) (by simp) ae.main (by simp) (gO _)) (λ_=>rfl) (by simp[a8]) (by simp);clear ai au ae;intro ρ' gs' w' bd a9 d0 t' U aS a' hN;have hK:∀j,(ρ' j).sum=(ρ j).sum:=λj=>(aS j).trans (aO j);have av:=ml (P:=P) (fn:=fn) (k:=k) (rest:=rest) (cs':=cs') (w:=w'.at d0) hj (aR (O.setIfInBounds q (.func (.func f) #[] (cx.map (iW O)))));have aT:q<O.size:=by rw[<-ht.size];exact aM
  have aU:iW (O.setIfInBounds q (.func (.func f) #[] (cx.map (iW O)))) (.tmp q)=.func (.func f) #[] (cx.map (iW O)):=by
   show(O.setIfInBounds q _).getD q hQ=_;rw[bv,bu aT];rfl
  have aA:=Tu P f q (cx.map (iW O)) (iW (O.setIfInBounds q (.func (.func f) #[] (cx.map (iW O))))) aJ aU (w'.at d0);have ax:eD m (cx.map (iW tm)) (cx.map (iW O)):=kO (fF:=m.fF) (gl:=E.gl) (λx hx=>Lo ht ah.qf.po x hx) (λx hx=>by rw[ah.fF];exact aL x hx);have W:=jd fn (O.setIfInBounds q (.func (.func f) #[] (cx.map (iW O)))) ops j rest k hQ;simp only[hj,cI,aK,eP]at W
  have aw:fB P true (fY fn (O.setIfInBounds q (.func (.func f) #[] (cx.map (iW O)))) (.inRegion ops (j::rest)::k)) cs' none (bE (iW (O.setIfInBounds q (.func (.func f) #[] (cx.map (iW O))))) oj) (w'.at d0)=.spawn (G (fY fn (O.setIfInBounds q (.func (.func f) #[] (cx.map (iW O)))) (.inRegion ops rest::k)) cs') (lD P ⟨.fn (.func f) (cx.map (iW O)),#[]⟩) (w'.at d0) #[]:=by
   unfold fB;simp only[if_true,aA,W,Bool.and_false,Bool.false_and,et,if_false];simp[gn,G,fY,bP,lD]
  have ai:=runT_crowd_spawn (P:=P) (sl:=a9) (i:=0) a' (show b7 P (0==0) _ (w'.at d0)=_ from av.trans aw);have e0:∀f p,dk 0 f p #[]=#[]:=λf p=>by rw[cg];simp
  rw[ai,e0];refine E.Z.next _ _ _ _ ?_;have aB:0<gs'.size:=(bo.1 a').1;obtain⟨c,aj,aC⟩:=ac.Mu rc hV;obtain⟨am,be,bf,bg⟩:=U.pd c aC;have ad:oq m E.T (⟨fn,tm.setIfInBounds q (.tuple #[]),.inRegion ops rest::k⟩::os) (fY fn (O.setIfInBounds q (.func (.func f) #[] (cx.map (iW O)))) (.inRegion ops rest::k)::cs'):=.cons (o:=⟨fn,tm.setIfInBounds q (.tuple #[]),.inRegion ops rest::k⟩) (ht.set q (.fV _ trivial)) aP;obtain⟨J,mi,S,ks,m₂,rfl,aD,aV,aE,ay,az,aW,ag,ak,a5,Y,a6,aF,aX,aY,aZ,aG⟩:=hS.go m (cx.map (iW O)) (w'.at d0) c ah ax U.main aj am λb hb=>(U.fix b hb).2
  have an:=U.spawn (Fix₂:=E₂.fK) (Pd₂:=λc=>Pd c/\c≠J.c) (g':=G (fY fn (O.setIfInBounds q (.func (.func f) #[] (cx.map (iW O)))) (.inRegion ops rest::k)) cs') (child:=lD P ⟨.fn (.func f) (cx.map (iW O)),#[]⟩) (J:=J) (mi:=mi) (S:=S) (k:=ks)
   (a:={g:=0,fn:=(G (fY fn (O.setIfInBounds q (.func (.func f) #[] (cx.map (iW O)))) (.inRegion ops (j::rest)::k)) cs').frame.fn,pos:=(G (fY fn (O.setIfInBounds q (.func (.func f) #[] (cx.map (iW O)))) (.inRegion ops (j::rest)::k)) cs').frame.place,act:=.go gs'.size}) (b:={g:=gs'.size,fn:=(lD P ⟨.fn (.func f) (cx.map (iW O)),#[]⟩).frame.fn,pos:=(G (fY fn (O.setIfInBounds q (.func (.func f) #[] (cx.map (iW O)))) (.inRegion ops (j::rest)::k)) cs').frame.place,act:=.start}) aB hS.fix (λc hc=>hc) aC rfl rfl rfl rfl a5 aF (λr q hr=>?_) aY aZ aG ⟨aV,am,aE,ay,az,aW,ag⟩
  rw[<-hS.z];rw[<-hS.w]at an;have hold:ρ' gs'.size=.quit 0:=U.out _ (.inr (db _))
  refine h m₂ _ _ _ _ a9 _ _ _ ak an ⟨λr vs hr=>?_,λj J' n hj=>?_,λr hr=>?_⟩ (by rw[hS.t];exact a6 _ ad) (by
   rw[bw,if_neg (by simp;omega)]
   simp[aB])
  rcases ab _ hr with x|⟨x,_⟩
  cases x;refine⟨gs'.size,J,0,by rw[cM];rfl,by rw[Y];exact aj,Nat.zero_le _,by rw[aD];rfl,by rw[aD];exact hS.flat⟩;obtain⟨j,J',n,x1,x2,x3⟩:=ac.all r vs x
  have hj:j≠gs'.size:=by
   rintro rfl;rw[<-hK,hold]at x1;cases x1
  exact⟨j,J',n,by rw[cN _ _ hj,hK];exact x1,by rw[Y];exact x2,x3⟩;by_cases e:j=gs'.size;subst e;rw[cM]at hj;cases hj;exact⟨rc,L,ap,by rw[Y];exact aj⟩;rw[cN _ _ e,hK]at hj;obtain⟨r,vs,x,y⟩:=ac.only j J' n hj;exact⟨r,vs,aq r vs x,by rw[Y];exact y⟩;rcases ab _ hr with x|⟨x,y⟩
  cases x;obtain⟨c,x1,x2⟩:=ac.Mu r x;refine⟨c,by rw[Y];exact x1,x2,?_⟩;rintro rfl;have:=m.vF _ _ _ x1 aj;subst this;exact y rfl;rcases aX r q hr with x|⟨x1,x2,x3⟩
  exact .inl x;exact .inr ⟨x1,x2,ao q x1 x3 m Pd ρ' gs' _ t' ah U (ac.le (.refl m) hK)⟩
end
end
section
open Go.Conc
open Go.ConcN (upd upd_same upd_ne)
variable {v z:Value}
inductive Flat:Value->Prop
 |bool (b):Flat (.bool b)
 |int (k n):Flat (.int k n)
 |string (s):Flat (.string s)
 |agg {c:Array Value}:(∀i(h:i<c.size),Flat c[i])->Flat (.agg c)
def Flat.refl(h:Flat v)(m:Ren):VR m v v:=by
 induction h with
 |bool b=>exact .bool b|int k n=>exact .int k n|string s=>exact .string s|agg _ O=>exact .agg rfl λi h _=>O i h
def Flat.eq(h:Flat v):∀(m:Ren)U,VR m v U->U=v:=by
 induction h with
 |bool b=>intro m U O;cases O;rfl
 |int k n=>intro m U O;cases O;rfl
 |string s=>intro m U O;cases O;rfl
 |@agg c _ Y=>
  intro m U O
  cases O with
  |@agg _ c' hs hi=>
   congr 1;refine b6 hs.symm λi h1 W=>?_;exact Y i W m _ (hi i W h1)
def xG(z:Value)(k:Nat)(v:Value)(ok:Bool):Value:=
 .tuple #[goInt k,.bool ok,if k=0 then v else z,if k=1 then v else z,if k=2 then v else z,if k=3 then v else z,if k=4 then v else z,if k=5 then v else z,if k=6 then v else z]
def Sw(z:Value)(c0 c1 c2 c3 c4 c5 O:Value)(k:Nat)(v:Value)(ok:Bool):bN #[⟨c0,none,z⟩,⟨c1,none,z⟩,⟨c2,none,z⟩,⟨c3,none,z⟩,⟨c4,none,z⟩,⟨c5,none,z⟩,⟨O,none,z⟩] .select (k:Int) v ok=xG z k v ok:=by
 have U:((0:Int)=k)=(k=0):=by rw[eq_iff_iff];omega
 have W:((1:Int)=k)=(k=1):=by rw[eq_iff_iff];omega
 have Y:((2:Int)=k)=(k=2):=by rw[eq_iff_iff];omega
 have e3:((3:Int)=k)=(k=3):=by rw[eq_iff_iff];omega
 have e4:((4:Int)=k)=(k=4):=by rw[eq_iff_iff];omega
 have e5:((5:Int)=k)=(k=5):=by rw[eq_iff_iff];omega
 have e6:((6:Int)=k)=(k=6):=by rw[eq_iff_iff];omega
 simp[bN,xG,List.zipIdx,U,W,Y,e3,e4,e5,e6]
def PZ(O:Flat z)(U:Flat v)(k:Nat)(ok:Bool)(m:Ren):VR m (xG z k v ok) (xG z k v ok):=by
 have one:∀n,VR m (if k=n then v else z) (if k=n then v else z):=λn=>by
  split;exact U.refl m;exact O.refl m
 refine VR.l7 (dT.cons (.int ..) (.cons (.bool ok) (.cons (one 0) (.cons (one 1) (.cons (one 2) (.cons (one 3) (.cons (one 4) (.cons (one 5) (.cons (one 6) .nil)))))))))
def sX(V:List (Nat×Option (List Value)))(r:Nat)(vs:List Value):List (Nat×Option (List Value)):=V.map λx=>if x.1=r then(r,some vs)else x
def uH(V:List (Nat×Option (List Value)))(r:Nat):List (Nat×Option (List Value)):=V.filter λx=>x.1≠r
section
variable {P:Program} {E:Env P} {fn:bA} {tm:Array Value} {os:List OF} {wl:World} {V:List (Nat×Option (List Value))} {k:List Item}
def dh.select{ops:Array Oper}{i:Nat}{rest:List Nat}{o:Oper}{x0 x1 x2 x3 x4 x5 x6:Tmp}{cl:Nat->Option Nat}(hi:ops[i]?=some o)(a8:fk o (b9 ops tm)=true)
  (av:∀(Y:Array Value)(w:World),(bE (iW Y) o).runT P w #[]=(.ok (.comm #[⟨Y.getD x0 hQ,none,z⟩,⟨Y.getD x1 hQ,none,z⟩,⟨Y.getD x2 hQ,none,z⟩,⟨Y.getD x3 hQ,none,z⟩,⟨Y.getD x4 hQ,none,z⟩,⟨Y.getD x5 hQ,none,z⟩,⟨Y.getD x6 hQ,none,z⟩] true .select) w,#[]))
  (hz:Flat z) (c0:tm.getD x0 hQ=.chan (cl 0)) (c1:tm.getD x1 hQ=.chan (cl 1)) (c2:tm.getD x2 hQ=.chan (cl 2)) (c3:tm.getD x3 hQ=.chan (cl 3)) (c4:tm.getD x4 hQ=.chan (cl 4)) (c5:tm.getD x5 hQ=.chan (cl 5)) (c6:tm.getD x6 hQ=.chan (cl 6))
  (jP:∀k r,k<7->cl k=some r->∃vs,(r,some vs)∈V) (sT:∀k k' r,k<7->k'<7->cl k=some r->cl k'=some r->k=k') (an:∃k r,k<7/\cl k=some r) (fO:(V.map Prod.fst).Nodup) (ag:∀r vs,(r,some vs)∈V->∀v∈vs,Flat v)
  (hv:∀k' r v vs,k'<7->cl k'=some r->(r,some (v::vs))∈V->dh E (⟨fn,eP o.dst tm (xG z k' v true),.inRegion ops rest::k⟩::os) wl (sX V r vs))
  (he:∀k' r,k'<7->cl k'=some r->(r,some [])∈V->dh E (⟨fn,eP o.dst tm (xG z k' z false),.inRegion ops rest::k⟩::os) wl (uH V r)) :
  dh E (⟨fn,tm,.inRegion ops (i::rest)::k⟩::os) wl V:=by
 intro m Pd ρ gs w sl t fr' cs' aw ax aa ay h0
 have a9:∀r a b,(r,a)∈V->(r,b)∈V->a=b:=by
  intro r a b ha hb;clear aa hv he jP ag;induction V with
  |nil=>cases ha
  |cons y V ih=>
   simp only[List.map_cons,List.nodup_cons]at fO;have ah:∀q,(r,q)∈V->y.1≠r:=λq hq e=>fO.1 (e▸cR.2 ⟨(r,q),hq,rfl⟩);rcases cP.1 ha with ea|ha
   rcases cP.1 hb with eb|hb
   rw[<-ea]at eb;cases eb;rfl;exact absurd (by rw[<-ea]) (ah b hb);rcases cP.1 hb with eb|hb
   exact absurd (by rw[<-eb]) (ah a ha);exact ih fO.2 ha hb
 cases ay with
 |@cons _ _ Y l ht az=>
  have hy:fk o (b9 ops Y)=true:=by rw[show b9 ops Y=b9 ops tm from funext (mu ops ht)];exact a8
  have lz:∀x c,tm.getD x hQ=.chan c->Y.getD x hQ=.chan (c.bind m.ch):=by
   intro x c hc;have hx:=ht.getD x;simp only at hx;rw[hc]at hx;generalize hq:Y.getD x hQ=q at hx
   cases hx with
   |je=>rfl|chan hb=>simp[hb]
  have d0:=lz x0 _ c0;have d1:=lz x1 _ c1;have d2:=lz x2 _ c2;have d3:=lz x3 _ c3;have d4:=lz x4 _ c4;have d5:=lz x5 _ c5;have d6:=lz x6 _ c6;let chans:Nat->Option Nat:=λk=>(cl k).bind m.ch;let O:Array CommCase:=#[⟨.chan (chans 0),none,z⟩,⟨.chan (chans 1),none,z⟩,⟨.chan (chans 2),none,z⟩,⟨.chan (chans 3),none,z⟩,⟨.chan (chans 4),none,z⟩,⟨.chan (chans 5),none,z⟩,⟨.chan (chans 6),none,z⟩];have aD:O.size=7:=rfl
  have a5:∀w,(bE (iW Y) o).runT P w #[]=(.ok (.comm O true .select) w,#[]):=by
   intro w;rw[av,d0,d1,d2,d3,d4,d5,d6]
  have ai:∀w,b7 P true (G (fY fn Y (.inRegion ops (i::rest)::k)) cs') w=.comm (G (fY fn Y (.inRegion ops (i::rest)::k)) cs') O true .select w #[]:=by
   intro w;rw[ml (P:=P) (fn:=fn) (k:=k) (rest:=rest) (cs':=cs') (w:=w) hi hy];unfold fB;simp only[if_true,a5];simp[gn,G,fY,bP]
  have U:∀k c,k<7->chans k=some c->∃r vs j J n,cl k=some r/\(r,some vs)∈V/\(ρ j).sum=some (J,n)/\m.ch r=some J.c/\J.c=c/\n<=J.L.length/\J.L.drop n=vs/\∀v∈J.L,∀(m:Ren)v',VR m v v'->v'=v:=by
   intro k c hk hc;simp only[chans]at hc
   cases e:cl k with
   |none=>rw[e]at hc;cases hc
   |some r=>
    rw[e]at hc;simp only[cI]at hc;obtain⟨vs,ab⟩:=jP k r hk e;obtain⟨j,J,n,g1,g2,g3,g4,g5⟩:=aa.all r vs ab;refine⟨r,vs,j,J,n,rfl,ab,g1,g2,?_,g3,g4,g5⟩;rw[g2]at hc;exact dt hc
  have aj:∀(j j':Nat)J n J' n',(ρ j).sum=some (J,n)->(ρ j').sum=some (J',n')->J.c=J'.c->j=j':=by
   intro j j' J n J' n' h1 h2 hc;apply ee;intro ad;exact ax.cc j j' J J' ad (eG.yl h1) (eG.yl h2) hc
  have hS:xo P (G (fY fn Y (.inRegion ops (i::rest)::k)) cs') O chans (λj=>(ρ j).sum):=by
   refine⟨rfl,ai,ai,λk cc ac=>?_,λk k' c hk a6 h1 h2=>?_,λk c hk hc=>?_,?_,λj J n hj v hv=>?_⟩;have hk:k<7:=(bo.1 ac).1;refine⟨z,?_⟩;match k,hk with
   |0,_=>simpa[O]using ac.symm|1,_=>simpa[O]using ac.symm|2,_=>simpa[O]using ac.symm|3,_=>simpa[O]using ac.symm|4,_=>simpa[O]using ac.symm|5,_=>simpa[O]using ac.symm|6,_=>simpa[O]using ac.symm
   obtain⟨r,vs,j,J,n,e1,_,_,e2,e3,_⟩:=U k c hk h1;obtain⟨r',vs',j',J',n',a',_,_,aA,aB,_⟩:=U k' c a6 h2;have:r=r':=m.vF _ _ _ e2 (by rw[aA,aB,e3]);subst this;exact sT k k' r hk a6 e1 a';obtain⟨r,vs,j,J,n,_,_,e,_,e3,_⟩:=U k c hk hc;exact⟨j,J,n,e,e3⟩;obtain⟨k,r,hk,hr⟩:=an;obtain⟨vs,ab⟩:=jP k r hk hr;obtain⟨j,J,n,g1,g2,_⟩:=aa.all r vs ab;exact⟨k,J.c,hk,by simp[chans,hr,g2]⟩;obtain⟨r,vs,ab,g2⟩:=aa.only j J n hj;obtain⟨j',J',n',ao,a7,_,_,g5⟩:=aa.all r vs ab;rw[g2]at a7;have:=aj j j' J n J' n' hj ao (dt a7);subst this;rw[hj]at ao;cases ao;exact g5 v hv
  have am:∀(k':Nat)v ok,(G (fY fn Y (.inRegion ops (i::rest)::k)) cs').finishComm P O .select (k':Int) v ok=G (fY fn (eP o.dst Y (xG z k' v ok)) (.inRegion ops rest::k)) cs':=by
   intro k' v ok;have e:=jd fn Y ops i rest k (xG z k' v ok);simp only[hi,cI]at e;show({(G (fY fn Y (.inRegion ops (i::rest)::k)) cs')with frame:=(fY fn Y (.inRegion ops (i::rest)::k)).finish (bN O .select (k':Int) v ok),status:=.running,offers:=none}:Goroutine)=_;rw[Sw,e];rfl
  refine Go.Proofs.YtocbogeoffeolaaGreatDoor.select (Z:=E.Z) (N:=gs.size) hS ?_ ?_ ρ gs w sl t ax (λ_=>rfl) h0 rfl;intro k' j J n v hk hc hj hn ρ' gs' w' ap t' ak hK al hN;obtain⟨r,vs,j',J',n',e1,e2,e3,e4,e5,e6,e7,e8⟩:=U k' J.c hk hc;have:=aj j j' J n J' n' hj e3 e5.symm;subst this;rw[hj]at e3;cases e3
  have ab:vs=v::J.L.drop (n+1):=by
   rw[<-e7];obtain⟨aq,rfl⟩:=cX.1 hn;exact List.drop_eq_getElem_cons aq
  subst ab;rw[am]at al;have aC:=ag r _ e2;refine hv k' r v (J.L.drop (n+1)) hk e1 e2 m Pd ρ' gs' w' ap t' _ _ aw ak ⟨λr2 ae h2=>?_,λj2 J2 n2 h2=>?_,λr2 h2=>?_⟩ (.cons (o:=⟨fn,eP o.dst tm (xG z k' v true),.inRegion ops rest::k⟩) (ht.eP o.dst (PZ hz (aC v (by simp)) k' true m)) az) al;simp only[sX,cR]at h2;obtain⟨y,ar,af⟩:=h2;split at af
  cases af
  have aq:n<J.L.length:=by
   have:=(cX.1 hn).1;exact this
  exact⟨j,J,n+1,by rw[hK,cM],e4,aq,rfl,e8⟩;rename_i ad;subst af;obtain⟨j2,J2,n2,g1,g2,g3⟩:=aa.all r2 ae ar
  have au:j2≠j:=by
   rintro rfl;rw[hj]at g1;cases g1;exact ad (m.vF _ _ _ g2 e4)
  exact⟨j2,J2,n2,by rw[hK,cN _ _ au];exact g1,g2,g3⟩;rw[hK]at h2;by_cases e:j2=j;subst e;rw[cM]at h2;cases h2;refine⟨r,J.L.drop (n+1),?_,e4⟩;simp only[sX,cR];exact⟨_,e2,by simp⟩;rw[cN _ _ e]at h2;obtain⟨r2,ae,g1,g2⟩:=aa.only j2 J2 n2 h2
  have ad:r2≠r:=by
   rintro rfl;rw[e4]at g2;exact e (aj j2 j J2 n2 J n h2 hj (dt g2).symm)
  refine⟨r2,ae,?_,g2⟩;simp only[sX,cR];exact⟨_,g1,by simp[ad]⟩;simp only[sX,cR]at h2;obtain⟨y,ar,af⟩:=h2;split at af
  cases af;subst af;exact aa.Mu r2 ar;intro k' j J z' W hc hj ρ' gs' w' ap t' ak hK al hN;have hk:k'<7:=(bo.1 W).1;obtain⟨r,vs,j',J',n',e1,e2,e3,e4,e5,e6,e7,e8⟩:=U k' J.c hk hc;have:=aj j j' J _ J' n' hj e3 e5.symm;subst this;rw[hj]at e3;cases e3;have ab:vs=[]:=by rw[<-e7];simp
  subst ab
  have ez:z'=z:=by
   obtain⟨z2,aE⟩:=hS.cs k' _ W;have aF:(ca J.c z').zero=z':=rfl;match k',hk,W with
   |0,_,W=>simp[O,ca]at W;exact W.2.symm|1,_,W=>simp[O,ca]at W;exact W.2.symm|2,_,W=>simp[O,ca]at W;exact W.2.symm|3,_,W=>simp[O,ca]at W;exact W.2.symm|4,_,W=>simp[O,ca]at W;exact W.2.symm|5,_,W=>simp[O,ca]at W;exact W.2.symm|6,_,W=>simp[O,ca]at W;exact W.2.symm
  subst ez;rw[am]at al;refine he k' r hk e1 e2 m Pd ρ' gs' w' ap t' _ _ aw ak ⟨λr2 ae h2=>?_,λj2 J2 n2 h2=>?_,λr2 h2=>?_⟩ (.cons (o:=⟨fn,eP o.dst tm (xG z' k' z' false),.inRegion ops rest::k⟩) (ht.eP o.dst (PZ hz hz k' false m)) az) al;simp only[uH,cU,decide_eq_true_eq]at h2;obtain⟨j2,J2,n2,g1,g2,g3⟩:=aa.all r2 ae h2.1
  have au:j2≠j:=by
   rintro rfl;rw[hj]at g1;cases g1;exact h2.2 (m.vF _ _ _ g2 e4)
  exact⟨j2,J2,n2,by rw[hK,cN _ _ au];exact g1,g2,g3⟩;rw[hK]at h2
  have e:j2≠j:=by
   rintro rfl;rw[cM]at h2;cases h2
  rw[cN _ _ e]at h2;obtain⟨r2,ae,g1,g2⟩:=aa.only j2 J2 n2 h2
  have ad:r2≠r:=by
   rintro rfl;rw[e4]at g2;exact e (aj j2 j J2 n2 J _ h2 hj (dt g2).symm)
  refine⟨r2,ae,?_,g2⟩;simp only[uH,cU,decide_eq_true_eq];exact⟨g1,ad⟩;simp only[uH,cU,decide_eq_true_eq]at h2;exact aa.Mu r2 h2.1
end
end
section
open Go.Conc
open Go.ConcN (upd upd_same upd_ne)
def Ip:eG->eG
 |.ended _ _ _ _ q=>.quit q|r=>r
section
variable {P:Program} {fK Fix':Nat->Prop} {w0 w0':World} {Pd:Nat->Prop} {ρ:Nat->eG} {m m':Ren} {wl wl':World} {gs:Array Goroutine} {w:World} {t:bB}
def vi{i:Nat}(O:(ρ i).sum=none):∃q,Ip (ρ i)=.quit q:=by
 cases e:ρ i with
 |quit q=>exact⟨q,rfl⟩|ended U J m S q=>exact⟨q,rfl⟩|act=>rw[e]at O;cases O
 |j0=>rw[e]at O;cases O
 |start=>rw[e]at O;cases O
def Co.PX(h:Co P fK w0 Pd ρ m wl gs w t)(hn:∀i,(ρ i).sum=none)(hw:WR m' wl' w)(aa:∀b,Fix' b->b<w.heap.size/\w.heap[b]?=w0'.heap[b]?)(hf:∀r b,m'.blk r=some b->Fix' b->m'.loose r)(ac:w0'.heap.size<=w.heap.size)(ad:w.os=w0'.os/\w.output=w0'.output)(ab:∀b,b<w0'.heap.size->Fix' b\/w0'.heap[b]?=some pF) :
  Co P Fix' w0' (λ_=>False) (λi=>Ip (ρ i)) m' wl' gs w t:=by
 have hq:=λi=>vi (hn i)
 have no:∀{α:Type}(f:eG->Option α),(∀q,f _=none)->∀i x,f (Ip _)=some x->False:=λf hf i x hx=>by
  obtain⟨q,e⟩:=hq i;rw[e,hf]at hx;cases hx
 refine⟨hw,λi g hi hg=>?_,λi hi=>?_,λi Y O=>(no _ (λ_=>rfl) i Y O).elim,λi j Y m2 _ O _=>(no _ (λ_=>rfl) i Y O).elim,λi j J1 J2 _ O _=>(no _ (λ_=>rfl) i J1 O).elim,h.calm hn m',λi Y O=>(no _ (λ_=>rfl) i Y O).elim,λi J O=>(no _ (λ_=>rfl) i J O).elim,h.low,h.hears,h.kQ.mono λi hi=>absurd (hn i) hi,h.clean,aa,hf,λi Y O=>(no _ (λ_=>rfl) i Y O).elim,λi J O=>(no _ (λ_=>rfl) i J O).elim,ac,ad,λp a b ha hb _=>.inl (h.calm hn {m' with blk:=λr=>if r=b then some b else none,po:=?_,inj:=?_,loose:=λ_=>False} p a b b ha hb (by simp) nofun),nofun,λb hb=>(ab b hb).imp id .inr⟩;have U:=h.at_ i g hi hg;have W:=hn i
 cases e:ρ i with
 |quit q=>rw[e]at U;exact U|ended hd J m S q=>rw[e]at U;exact U.1|act=>rw[e]at W;cases W
 |j0=>rw[e]at W;cases W
 |start=>rw[e]at W;cases W
 rw[h.out i hi];rfl;intro r r' hr;split at hr
 cases hr;rename_i e;rw[e]
 cases hr;intro r s q hr W;split at hr;split at W;rename_i e1 e2;rw[e1,e2]
 cases W
 cases hr
def Co.old(h:Co P fK w0 Pd ρ m wl gs w t)(hn:∀i,(ρ i).sum=none)(Y:∀b,w0.heap[b]?=some pF->fK b):∀b,b<w0.heap.size->w.heap[b]?=w0.heap[b]?:=by
 intro b hb;rcases h.len b hb with x|⟨i,J,r,o,x1,x2,x3⟩|z
 .exact(h.fix b x).2
 rotate_left;exact(h.fix b (Y b z)).2;obtain⟨g,hi,hg,U⟩:=h.get (i:=i) λe=>by rw[e]at x1;cases x1
 have O:=hn i
 cases e:ρ i with
 |quit q=>rw[e]at x1;cases x1
 |act=>rw[e]at O;cases O
 |j0=>rw[e]at O;cases O
 |start=>rw[e]at O;cases O
 |ended hd J' mi S q=>
  rw[e]at x1 U;cases x1;obtain⟨_,W,⟨aa,ab⟩,ac,_⟩:=U;obtain⟨h1,h2⟩:=ab.back S aa r b o x2;obtain⟨o1,o2,g1,g2,g3⟩:=ac.obj r b (W.l6 r b o x2);rw[h1]at g1;cases g1;rw[h2 mi o2 g3]at g2;rw[g2,x3]
def Co.fresh(h:Co P fK w0 Pd ρ m wl gs w t)(U:∀b,w0.heap[b]?=some pF->fK b){r b:Nat}(W:m.blk r=some b)(Y:¬m.loose r):w0.heap.size<=b:=by
 apply ee;intro hb;rcases h.len b (by omega)with x|⟨i,J,r',o,x1,x2,x3⟩|z
 .exact Y (h.f0 r b W x)
 rotate_left;exact Y (h.f0 r b W (U b z));obtain⟨g,hi,hg,aa⟩:=h.get (i:=i) λe=>by rw[e]at x1;cases x1
 obtain⟨m1,O⟩:∃m1,(ρ i).nj=some m1:=by
  cases e:ρ i with
  |quit q=>rw[e]at x1;cases x1
  |act J m S n=>exact⟨m,rfl⟩|j0 J m S n v=>exact⟨m,rfl⟩|start J m S k=>exact⟨m,rfl⟩|ended hd J m S q=>exact⟨m,rfl⟩
 exact Y (h.d0 i m1 O r r' b W ((aa.V8 O x1).l6 r' b o x2)).1
def WR.Qk(h:WR m wl w){b:Nat}{c:Array Value}{e:bJ}{f:Nat×Nat}(hb:∀s,m.blk s≠some b)(hG:wl.heap.size<m.G↔b<m.G)(ho:w.heap[b]?=some (.cells c e f))(hc:∀v∈c.toList,Flat v) :
  WR (m.ext wl.heap.size b h.gQ hb hG) {wl with heap:=wl.heap.push (.cells c e f)} w:=by
 have aa:=Ren.vO h.gQ hb hG;have ac:OR (m.ext _ b h.gQ hb hG) _ _:=.cells e f f (eD.refl λv hv=>(hc v hv).refl _)
 have key:∀r r',(m.ext _ b h.gQ hb hG).blk r=some r'->(r=wl.heap.size/\r'=b)\/(r≠wl.heap.size/\m.blk r=some r'):=by
  intro r r' O;by_cases e:r=wl.heap.size;subst e;simp[Ren.ext]at O;exact .inl ⟨rfl,O.symm⟩;simp[Ren.ext,e]at O;exact .inr ⟨e,O⟩
 have lo:∀r,(m.ext _ b h.gQ hb hG).loose r->r≠wl.heap.size/\m.loose r:=by
  intro r O;by_cases e:r=wl.heap.size;subst e;simp[Ren.ext]at O;simp[Ren.ext,e]at O;exact⟨e,O⟩
 have pu:∀r,r<wl.heap.size->(wl.heap.push (.cells c e f))[r]?=wl.heap[r]?:=λr O=>eU O;refine⟨λr r' O=>?_,λr r' c1 Y f1 c2 e2 f2 O h1 h2 hn=>?_,λr r' c1 Y f1 c2 e2 f2 O h1 h2 hl=>?_,λr r' O=>?_,?_,h.Ld,h.os,λr o O=>?_,λr r' O hl=>?_,λr O=>?_,λr i v hv=>?_⟩;rcases key r r' O with⟨rfl,rfl⟩|⟨_,O⟩
 exact⟨_,_,by simp,ho,ac⟩;obtain⟨o,o',g1,g2,g3⟩:=h.obj r r' O;exact⟨o,o',iU g1,g2,g3.mono aa⟩;rcases key r r' O with⟨rfl,rfl⟩|⟨U,O⟩
 rw[ho]at h2;cases h2;simp at h1;exact h1.2.2;have W:=(h.lt O).1;refine h.fz r r' c1 Y f1 c2 e2 f2 O (by rw[<-pu r W];exact h1) h2 λx=>hn ?_;simp[Ren.ext,U,x];rcases key r r' O with⟨rfl,rfl⟩|⟨U,O⟩
 exact absurd rfl (lo _ hl).1;have W:=(h.lt O).1;exact h.all r r' c1 Y f1 c2 e2 f2 O (by rw[<-pu r W];exact h1) h2 (lo _ hl).2;have:=h.NQ r r' O;exact⟨by simp;omega,this.2⟩;have:=h.NM;show m.G<=(wl.heap.push _).size;simp;omega;obtain⟨g1,g2⟩:=h.lz r o O;exact⟨iU g1,g2⟩;rcases key r r' O with⟨rfl,rfl⟩|⟨U,O⟩
 exact absurd rfl (lo _ hl).1;obtain⟨c1,Y,f1,g⟩:=h.lk r r' O (lo _ hl).2;exact⟨c1,Y,f1,iU g⟩;obtain⟨g1,c1,Y,f1,g⟩:=h.dead r O;have W:=jY g;refine⟨?_,c1,Y,f1,iU g⟩;have U:r≠wl.heap.size:=by omega
 simp[Ren.ext,U,g1];obtain⟨r',ab,hp⟩:=h.sW r i v hv;exact⟨r',aa.blk _ _ ab,λc e f c' e' f' x g1=>hp c e f c' e' f' x (by rw[<-pu r (h.lt ab).1];exact g1)⟩
end
end
section
open Go.Conc
open Go.ConcN (upd upd_same upd_ne)
variable {ops:Array Oper} {f:bA} {R0:Nat->Nat->Prop} {R1:Nat->Option Nat->Nat->Nat->Array Value->bJ->Nat×Nat->Prop} {m:Ren}
section
variable {P:Program} {E:Env P} {fn:bA} {tm:Array Value} {os:List OF} {wl:World} {k:List Item}
def Rg.Qk(h:Rg E m){r b:Nat}(U:m.blk r=none)(W:∀s,m.blk s≠some b)(Y:r<m.G↔b<m.G):Rg E (m.ext r b U W Y):=by
 have O:=Ren.vO U W Y;exact⟨h.qf.mono O,h.iq,λs s' hs=>h.mT s s' hs,O.fF.trans h.fF,O.ok.trans h.Um,E.le m _ O h.x⟩
def Ki{c O:Array Value}(h:eD m c O)(U:∀v∈c.toList,Flat v):O=c:=by
 refine b6 h.size.symm λi W Y=>?_;have:=h.idx i Y W;exact(U _ (by simp)).eq m _ this
structure BX(P:Program)(E₂:Env P)(gP:Func)(tm1:Array Value)(wl2:World)(R0:Nat->Nat->Prop)(R1:Nat->Option Nat->Nat->Nat->Array Value->bJ->Nat×Nat->Prop):Prop where
 zw:∃v1,(∀τ,(bO gP tm1).run P (tp wl2 τ)=.ok v1 (tp wl2 τ))/\((∃l cp,v1=.slice none l cp/\R0 l cp)\/∃b1 off spot l cp cs e f,v1=.slice (some ⟨b1,off,spot⟩) l cp/\wl2.heap[b1]?=some (.cells cs e f)/\(∀v∈cs.toList,Flat v)/\(∀m,Rg E₂ m->¬m.loose b1)/\R1 off spot l cp cs e f)
 VW:∀b,E₂.w0.heap[b]?=some pF->E₂.fK b
def LY{E₂:Env P}{gP:Func}{i:Nat}{rest:List Nat}{o:Oper}{m0:Ren}{O:Array Value}{l':List Frame}{tm1:Array Value}{td1:List Item}{aa:World}
  (ap:∀b,b<E.w0.heap.size->E.fK b\/E.w0.heap[b]?=some pF) (Y:∀b,E.fK b->b<E₂.w0.heap.size/\E₂.w0.heap[b]?=E.w0.heap[b]?) (ay:∀r b,m0.blk r=some b->E.fK b->m0.loose r) (az:E.w0.heap.size<=E₂.w0.heap.size) (aj:E₂.w0.os=E.w0.os/\E₂.w0.output=E.w0.output) (hZ:E₂.Z=E.Z) (hT:E₂.T=fY fn O (.inRegion ops (i::rest)::k)::l') (ak:Rg E m0) (af:WR m0 wl E₂.w0) (ht:eD m0 tm O) (a5:oq m0 E.T os l') (hf:P.funcs[f]?=some gP) (hi:ops[i]?=some o) (aI:td1=[]\/∃k1,td1=.code .ret::k1) (hR:BX P E₂ gP tm1 aa R0 R1)
  (aJ:∀l cp,R0 l cp->dh E (⟨fn,eP o.dst tm (.slice none l cp),.inRegion ops rest::k⟩::os) wl [])
  (aK:∀off spot l cp cs e f,R1 off spot l cp cs e f->(∀v∈cs.toList,Flat v)->dh E (⟨fn,eP o.dst tm (.slice (some ⟨wl.heap.size,off,spot⟩) l cp),.inRegion ops rest::k⟩::os) {wl with heap:=wl.heap.push (.cells cs e f)} []) :
  dh E₂ [⟨f,tm1,td1⟩] aa []:=by
 intro m Pd ρ gs w sl t fr' cs' aL aM aN ag h0
 have hn:∀i,(ρ i).sum=none:=by
  intro i
  cases e:(ρ i).sum with
  |none=>rfl|some x=>
   obtain⟨r,vs,hx,_⟩:=aN.only i x.1 x.2 e;cases hx
 refine turn (Z:=E₂.Z) (a:=G fr' cs') (K:=λj=>(ρ j).sum) (N:=gs.size) rfl ?_ ρ gs w sl t aM (λ_=>rfl) h0 rfl;intro ρ' gs' w' bc a6 d t' ah hK ai hN
 cases ag with
 |@cons _ _ W l aO ag=>
  cases ag;rw[hT]at ai
  have aP:b7 P true (G (fY f W td1) (fY fn O (.inRegion ops (i::rest)::k)::l')) (w'.at d)=.go (G ⟨f,W,td1,[],.returning,.normal,none⟩ (fY fn O (.inRegion ops (i::rest)::k)::l')) (w'.at d) #[]:=by
   rcases aI with rfl|⟨k1,rfl⟩<;>rfl
  have a7:=bY (P:=P) (sl:=a6) (i:=0) ai (show b7 P (0==0) _ (w'.at d)=_ from aP);rw[a7];refine E₂.Z.next _ _ _ _ ?_;have aQ:0<gs'.size:=(bo.1 ai).1;refine turn (Z:=E₂.Z) (a:=G ⟨f,W,td1,[],.returning,.normal,none⟩ (fY fn O (.inRegion ops (i::rest)::k)::l')) (K:=λj=>(ρ' j).sum) (N:=gs'.size) rfl ?_ ρ' _ _ a6 _ (ah.xx (gs':=(gs'.map (woken P _ _ (w'.at d))).setIfInBounds 0 (G ⟨f,W,td1,[],.returning,.normal,none⟩ (fY fn O (.inRegion ops (i::rest)::k)::l'))) (.refl m) (.refl m _) (by simp) ah.main (by simp) (gO _)) (λ_=>rfl) (by simp[aQ]) (by simp);clear ah a7 ai;intro aq a8 w2 bd ar d2 t2 al aR a9 be;obtain⟨v1,aA,au⟩:=hR.zw;have aB:=(mg (P:=P) (fn:=gP) aO).run (tp aa (along aa (w2.at d2))) (w2.at d2) #[] (al.main.tp _) (.inl (pA aa (w2.at d2)));rw[aA]at aB;obtain⟨dz,v',w₁,es₁,e1,e2,e3,e4,_,e6,e7⟩:=aB;rw[bz]at e1;have am:=jd fn O ops i rest k v';simp only[hi,cI]at am
  have aC:b7 P true (G ⟨f,W,td1,[],.returning,.normal,none⟩ (fY fn O (.inRegion ops (i::rest)::k)::l')) (w2.at d2)=.go (G (fY fn (eP o.dst O v') (.inRegion ops rest::k)) l') w₁ (bP P f es₁):=by
   have:b7 P true (G ⟨f,W,td1,[],.returning,.normal,none⟩ (fY fn O (.inRegion ops (i::rest)::k)::l')) (w2.at d2)=bC P true ⟨f,W,td1,[],.returning,.normal,none⟩ (fY fn O (.inRegion ops (i::rest)::k)::l') none (w2.at d2):=rfl;rw[this];unfold bC;simp only[hf,e1];unfold bL;simp only[am];simp[gn,G]
  have aD:=bY (P:=P) (sl:=ar) (i:=0) a9 (show b7 P (0==0) _ (w2.at d2)=_ from aC);rw[aD];refine E₂.Z.next _ _ _ _ ?_;rw[hZ];have an:0<a8.size:=(bo.1 a9).1;have U:=al.xx (gs':=(a8.map (woken P (G ⟨f,W,td1,[],.returning,.normal,none⟩ (fY fn O (.inRegion ops (i::rest)::k)::l')) (G (fY fn (eP o.dst O v') (.inRegion ops rest::k)) l') w₁)).setIfInBounds 0 (G (fY fn (eP o.dst O v') (.inRegion ops rest::k)) l')) (fn:=(G (⟨f,W,td1,[],.returning,.normal,none⟩:Frame) (fY fn O (.inRegion ops (i::rest)::k)::l')).frame.fn) (pos:=(G (⟨f,W,td1,[],.returning,.normal,none⟩:Frame) (fY fn O (.inRegion ops (i::rest)::k)::l')).frame.place) (es:=bP P f es₁) e2 e6 (λe he=>e7 e (cr he)) e4 (by simp) (gO _);have av:∀i,(aq i).sum=none:=λi=>(aR i).trans ((hK i).trans (hn i));have hold:=U.old av hR.VW;have ad:WR m0 wl w₁:=af.rely (λr b hb=>hold b (af.lt hb).2) U.sz U.os.1;have ab:=aL.le e2 e6;have calm:∀m' wl',WR m' wl' w₁->(∀r b,m'.blk r=some b->E.fK b->m'.loose r)->Co P E.fK E.w0 (λ_=>False) (λi=>Ip (aq i)) m' wl' _ w₁ _:=λm' wl' hw hf=>U.PX av hw (λb hb=>⟨da (Y b hb).1 U.sz,(hold b (Y b hb).1).trans (Y b hb).2⟩) hf (dc az U.sz) ⟨U.os.1.trans aj.1,U.os.2.trans aj.2⟩ ap
  have mT:∀m',SJ m' (λi=>Ip (aq i)) (λ_=>False) []:=λm'=>by
   refine⟨λr vs hr=>(by cases hr),λj J n hj=>?_,λr hr=>(by cases hr)⟩;obtain⟨q,e⟩:=vi (av j);rw[e]at hj;cases hj
  rcases au with⟨l,cp,rfl,aS⟩|⟨b1,off,spot,l,cp,cs,ty,fz,rfl,aT,aw,ac,aU⟩
  cases e3 with
  |fE=>
   exact aJ l cp aS m0 _ _ _ _ ar _ _ _ ak (calm m0 wl ad ay) (mT m0) (.cons (o:=⟨fn,eP o.dst tm (.slice none l cp),.inRegion ops rest::k⟩) (ht.eP o.dst (.fE l cp)) a5) (by simp[an])
  cases e3 with
  |@slice _ a' _ _ ha=>
   cases ha with
   |@mk _ b' _ _ ax=>
    obtain⟨o1,o2,g1,g2,g3⟩:=e4.obj b1 b' ax;have ao:(tp aa (along aa (w2.at d2))).heap[b1]?=some (.cells cs ty fz):=aT;rw[ao]at g1;cases g1
    cases g3 with
    |@cells _ cs' _ _ aE aV=>
     have aW:=Ki aV aw;subst aW;have aX:aE=fz:=e4.fz b1 b' _ _ _ _ _ _ ax ao g2 (ac dz ab);subst aX;have aH:E₂.w0.heap.size<=b':=U.fresh hR.VW ax (ac dz ab)
     have ae:∀s,m0.blk s≠some b':=λs hs=>by
      have:=(af.lt hs).2;omega
     have hG:wl.heap.size<m0.G↔b'<m0.G:=by
      have h1:=af.NM;have h2:=af.Ld;constructor<;>intro x<;>omega
     have aY:=ad.Qk ae hG g2 aw;have aF:=Ren.vO ad.gQ ae hG
     have aZ:∀r b,(m0.ext wl.heap.size b' ad.gQ ae hG).blk r=some b->E.fK b->(m0.ext wl.heap.size b' ad.gQ ae hG).loose r:=λr b hr hF=>by
      by_cases e:r=wl.heap.size;subst e;simp[Ren.ext]at hr;have:=(Y b hF).1;omega;have ba:=by simpa[Ren.ext,e]using hr
      have:=ay r b ba hF;simpa[Ren.ext,e]using this
     have aG:(m0.ext _ b' ad.gQ ae hG).blk wl.heap.size=some b':=by simp[Ren.ext]
     exact aK off spot l cp cs' ty aE aU aw _ _ _ _ _ ar _ _ _ (ak.Qk _ ae hG) (calm _ _ aY aZ) (mT _) (.cons (o:=⟨fn,eP _ tm _,.inRegion ops rest::k⟩) ((ht.mono aF).eP _ (.slice l cp (.mk aG))) (a5.mono aF)) (by simp[an])
def dh.phase{i:Nat}{rest:List Nat}{o:Oper}{gP:Func}{c:Code}{ars:Array Operand}{ts:Array bJ}
  (af:∀b,b<E.w0.heap.size->E.fK b\/E.w0.heap[b]?=some pF) (hi:ops[i]?=some o) (au:fk o (b9 ops tm)=true) (hf:P.funcs[f]?=some gP) (hb:gP.body=some c) (hn:gP.name≠ "runtime.NumGoroutine") (ho:o.op=.call {callee:=.value (.func f),args:=ars,argTypes:=ts}) (av:∀x∈ars.toList,dQ E.fF E.gl x)
  (hph:∀m w ad T,Rg E m->WR m wl w->eD m (ars.map (iW tm)) ad->(∀ps,T=[ps]->ps.mode≠.panicking [bD])->∃(U:Env P)(tm1:Array Value)(m1:Ren)(Y:World),U.Z=E.Z/\U.T=T/\U.w0=w/\(∀b,U.fK b↔b<w.heap.size)/\Rg U m1/\WR m1 Y w/\(∀r b,m1.blk r=some b->m1.loose r)/\eD m1 tm1 (ad++bq (gP.ntmps-ars.size) hQ)/\
    ((∀(E₂:Env P)ag aa ah,E₂.Z=E.Z->E₂.T=T->E₂.w0=w->(aa=[]\/∃k2,aa=.code .ret::k2)->BX P E₂ gP ag ah R0 R1->dh E₂ [⟨f,ag,aa⟩] ah [])->dh U [⟨f,tm1,[.code c]⟩] Y []))
  (aw:∀l cp,R0 l cp->dh E (⟨fn,eP o.dst tm (.slice none l cp),.inRegion ops rest::k⟩::os) wl [])
  (ax:∀off spot l cp cs e f,R1 off spot l cp cs e f->(∀v∈cs.toList,Flat v)->dh E (⟨fn,eP o.dst tm (.slice (some ⟨wl.heap.size,off,spot⟩) l cp),.inRegion ops rest::k⟩::os) {wl with heap:=wl.heap.push (.cells cs e f)} []) :
  dh E (⟨fn,tm,.inRegion ops (i::rest)::k⟩::os) wl []:=by
 intro m Pd ρ gs w sl t fr' cs' ab ay az ae h0
 have a5:∀i,(ρ i).sum=none:=by
  intro i
  cases e:(ρ i).sum with
  |none=>rfl|some x=>
   obtain⟨r,vs,hx,_⟩:=az.only i x.1 x.2 e;cases hx
 refine turn (Z:=E.Z) (a:=G fr' cs') (K:=λj=>(ρ j).sum) (N:=gs.size) rfl ?_ ρ gs w sl t ay (λ_=>rfl) h0 rfl;intro ρ' gs' w' aH aj d t' W hK ak hN;have a6:=ae
 cases ae with
 |@cons _ _ O l ht a7=>
  have hy:fk o (b9 ops O)=true:=by rw[show b9 ops O=b9 ops tm from funext (mu ops ht)];exact au
  have a8:=ml (P:=P) (fn:=fn) (k:=k) (rest:=rest) (cs':=cs') (w:=w'.at d) hi hy;have al:=Gg P hf hb hn (iW O) rfl ho (w'.at d);have ha:eD m (ars.map (iW tm)) (ars.map (iW O)):=kO (fF:=m.fF) (gl:=E.gl) (λx hx=>Lo ht ab.qf.po x hx) (λx hx=>by rw[ab.fF];exact av x hx)
  have a9:fB P true (fY fn O (.inRegion ops (i::rest)::k)) cs' none (bE (iW O) o) (w'.at d)=.go (G (fY f (ars.map (iW O)++bq (gP.ntmps-ars.size) hQ) [.code c]) (fY fn O (.inRegion ops (i::rest)::k)::cs')) (w'.at d) #[]:=by
   unfold fB;simp only[if_true,al];simp[gn,G,fY,g8,hf,hb,bP]
  have a':=bY (P:=P) (sl:=aj) (i:=0) ak (show b7 P (0==0) _ (w'.at d)=_ from a8.trans a9);rw[a'];refine E.Z.next _ _ _ _ ?_;have aA:0<gs'.size:=(bo.1 ak).1
  have ai:∀ps,(fY fn O (.inRegion ops (i::rest)::k)::cs')=[ps]->ps.mode≠.panicking [bD]:=by
   rintro ps e;cases e;simp[fY]
  obtain⟨U,tm1,m1,Y,aB,aC,ac,am,aD,an,aE,aF,ao⟩:=hph m (w'.at d) (ars.map (iW O)) (fY fn O (.inRegion ops (i::rest)::k)::cs') ab W.main ha ai;have ap:∀i,(ρ' i).sum=none:=λi=>(hK i).trans (a5 i);have aq:=W.xx (gs':=(gs'.map (woken P (G (fY fn O (.inRegion ops (i::rest)::k)) cs') (G (fY f (ars.map (iW O)++bq (gP.ntmps-ars.size) hQ) [.code c]) (fY fn O (.inRegion ops (i::rest)::k)::cs')) _)).setIfInBounds 0 _) (fn:=(G (fY fn O (.inRegion ops (i::rest)::k)) cs').frame.fn) (pos:=(G (fY fn O (.inRegion ops (i::rest)::k)) cs').frame.place) (es:=#[]) (.refl m) (.refl m _) (by simp) W.main (by simp) (gO _);have ar:Co P _ U.w0 _ _ m1 Y _ _ _:=aq.PX ap an (λb hb=>by rw[ac];exact⟨(am b).1 hb,rfl⟩) (λr b hr _=>aE r b hr) (by rw[ac];exact db _) (by rw[ac];exact⟨rfl,rfl⟩) (λb hb=>.inl ((am b).2 (by rw[ac]at hb;exact hb)));rw[<-aB];refine ao ?_ m1 _ _ _ _ aj _ _ _ aD ar ⟨λr vs hr=>(by cases hr),λj J n hj=>?_,λr hr=>(by cases hr)⟩ (.cons (o:=⟨f,tm1,[.code c]⟩) aF (by rw[aC];exact .nil)) (by simp[aA]);intro E₂ ag aa ah z2 T2 W2 aG hR;exact LY af (λb hb=>by rw[W2];exact W.fix b hb) W.f0 (by rw[W2];exact W.sz) (by rw[W2];exact W.os) z2 T2 ab (by rw[W2];exact W.main) ht a7 hf hi aG hR aw ax;obtain⟨q,e⟩:=vi (ap j);rw[e]at hj;cases hj
end
end
section
open Go.Conc
variable {T:Tables} {d:TypeDesc} {t:bJ} {info:bJ->Option TypeInfo} {i:TypeInfo} {v:Value}
def Ou:Value->Bool
 |.bool _|.int _ _|.string _|.pointer none|.slice none _ _|.map none|.chan none|.nilFunc|.nilIface=>true|_=>false
def D7(h:Ou v=true):Plain v:=by
 unfold Ou at h;split at h<;>first|trivial|cases h
def SK(fF gl:Nat->Bool):Operand->Bool
 |.tmp _=>true|.const v=>Ou v|.global g=>gl g|.func f=>fF f
def Oz{fF gl:Nat->Bool}{x:Operand}(h:SK fF gl x=true):dQ (λf=>fF f=true) (λg=>gl g=true) x:=by
 cases x with
 |tmp t=>trivial|const v=>exact D7 h|global g=>exact h|func f=>exact h
def Gm:Operand->Bool
 |.tmp _=>true|.const v=>Ou v|_=>false
def OL(P:Program)(st:Bool)(O:Array bJ)(n:Nat):Builtin->Bool
 |.append|.clear|.copy|.max|.min|.recover=>true|.cap|.len=>(O[0]?).all (sG P)|.unsafeString=>st&&n==2|_=>false
def TF(P:Program)(st:Bool)(t:bJ):Bool:=match P.underlying t with
 |some (.map k _)=>qT P 10000 k&&(st || oh P Op.maxDepth k)
 |_=>true
def VI(P:Program)(st:Bool)(t:bJ)(y:Operand):Bool:=st || oh P Op.maxDepth t || (isNil y&&match P.underlying t with|some (.pointer _)|some (.interface _)|none=>true|_=>false)
def EB(P:Program)(fF gl:Nat->Bool)(st:Bool)(op:Op):Bool:=
 op.operands.all (SK fF gl)&&match op with
 |.move _|.assign _|.pick ..|.alloc _|.box ..|.build ..|.buildSlice ..|.load ..|.store ..|.nilCheck _|.unOp ..|.makeInterface ..|.makeMap ..|.makeSlice ..|.slice ..|.fieldAddr ..|.field ..|.indexAddr ..|.index ..|.entryStore ..|.range ..|.next ..|.entry _|.extract ..|.panic _|.send .. => true|.binOp o t _ y _=>(match o with|.eql|.neq=>VI P st t y|_=>true)
 |.convert s d _=>Eo P s d|.makeFunc (.func f) _ _=>fF f|.lookup t ..|.mapUpdate t ..|.mapEntry t .. => TF P st t|.typeAssert _ _ _ ok=>ok|.call c=>(match c.callee with
  |.value _=>true|.builtin b=>OL P st c.argTypes c.args.size b|.invoke .. => false)
 |.defer c=>(match c.callee with
  |.value _=>true|_=>false)
 |_=>false
def jE(ok:Oper->Bool):Code->Bool
 |.skip|.exit _|.label _|.goto _|.ret=>true|.region _ ops _=>ops.all ok|.seq a b=>jE ok a&&jE ok b|.cond c a b=>Gm c&&jE ok a&&jE ok b|.block _ c|.loop c|.scope c=>jE ok c|.rangeFunc f _ a b=>Gm f&&jE ok a&&jE ok b|.refuse _=>false
section
variable {P:Program} {fF gl:Nat->Bool} {st:Bool}
def Rp(h:TF P st t=true):Q5 P st t:=by
 intro k e O;unfold TF at h;rw[O]at h;simp only[en,ey]at h;exact h
def Tx{y:Operand}(h:VI P st t y=true):U8 P st t y:=by
 unfold VI at h;simp only[ey,en]at h;rcases h with(h|h)|⟨U,O⟩
 exact .inl h;exact .inr (.inl h);refine .inr (.inr ⟨U,λd W=>?_⟩);rw[W]at O;cases d<;>first|exact .inl ⟨_,rfl⟩|exact .inr ⟨_,rfl⟩|cases O
def vQ{op:Op}(h:EB P fF gl st op=true):OkOp P (λf=>fF f=true) (λg=>gl g=true) st op:=by
 unfold EB at h;rw[en]at h;obtain⟨W,O⟩:=h;refine⟨λx Y=>Oz ?_,?_⟩;rw[bt]at W;rw[bs]at Y;obtain⟨i,hi,rfl⟩:=br.1 Y;exact W i hi
 cases op with
 |binOp o t x y s=>
  rintro(rfl|rfl)<;>exact Tx O
 |convert s d x=>exact O|makeFunc f a b=>cases f<;>first|exact O|cases O
 |lookup|mapUpdate|mapEntry=>exact Rp O|typeAssert=>exact O|call c=>
  obtain⟨ce,ars,ts⟩:=c
  cases ce with
  |value x=>trivial|invoke=>cases O
  |builtin b=>
   refine⟨?_,by rintro rfl;cases O⟩;cases b<;>first|trivial|cases O|skip
   intro t U;have O:(ts[0]?).all _=true:=O;rw[U]at O;exact O;intro t U;have O:(ts[0]?).all _=true:=O;rw[U]at O;exact O;have O:(st&&ars.size==2)=true:=O;show st=true/\ars.size=2;simpa using O
 |defer c=>
  obtain⟨ce,ars,ts⟩:=c;cases ce<;>first|trivial|cases O
 |_=>first|trivial|cases O
def nI{ok:Oper->Bool}:∀{c:Code},jE ok c=true->fR (λo=>ok o=true) c:=by
 have O:∀{x:Operand},Gm x=true->vW x:=fun {x} h=>by
  cases x with
  |tmp t=>trivial|const v=>exact D7 h|global g=>cases h
  |func f=>cases h
 intro c;induction c with
 |skip|exit|label|goto|ret=>intro _;trivial|region i ops d=>
  intro h o ho;have h:ops.all ok=true:=h;rw[bt]at h;rw[bs]at ho;obtain⟨i,hi,rfl⟩:=br.1 ho;exact h i hi
 |seq a b U W=>
  intro h;have h:(jE ok a&&jE ok b)=true:=h;rw[en]at h;exact⟨U h.1,W h.2⟩
 |cond x a b U W=>
  intro h;have h:(Gm x&&jE ok a&&jE ok b)=true:=h;simp only[en]at h;exact⟨O h.1.1,U h.1.2,W h.2⟩
 |block i c Y=>exact λh=>Y h|loop c Y=>exact λh=>Y h|scope c Y=>exact λh=>Y h|rangeFunc f ps a b U W=>
  intro h;have h:(Gm f&&jE ok a&&jE ok b)=true:=h;simp only[en]at h;exact⟨O h.1.1,U h.1.2,W h.2⟩
 |refuse=>intro h;cases h
end
def GZ:Nat->Value->Bool
 |0,_=>false|n+1,v=>match v with
  |.agg c=>c.all (GZ n)|.tuple c=>c.all (GZ n)|v=>Ou v
def AD:∀{n:Nat}{v:Value},GZ n v=true->∀m,VR m v v
 |n+1,v,h,m=>by
  unfold GZ at h;split at h;rw[bt]at h;exact .agg rfl λi hi _=>AD (h i hi) m;rw[bt]at h;exact .tuple rfl λi hi _=>AD (h i hi) m;exact VR.plain (D7 h)
def BZ{Y O:Type}{I:O->Prop}{f:Y->O->Option (ForInStep O)}(hf:∀a s r,f a s=some r->I s->∃s',(r=.yield s'\/r=.done s')/\I s'):∀(l:List Y){s s':O},I s->forIn l s f=some s'->I s'
 |[],s,s',h,e=>by simp at e;exact e▸h
 |a::l,s,s',h,e=>by
  rw[List.forIn_cons]at e
  cases U:f a s with
  |none=>rw[U]at e;cases e
  |some r=>
   rw[U]at e
   obtain⟨s1,W|W,h2⟩:=hf a s r U h
   subst W;exact BZ hf l h2 e;subst W;have:=e;cases this;exact h2
def me(v:Value):Prop:=∀m,VR m v v
def me.cells(h:me v):∀x∈v.cells.toList,me x:=by
 intro x O m;have U:=(h m).cells;rw[bs]at O;obtain⟨i,hi,rfl⟩:=br.1 O;exact U.idx i hi hi
def me.agg{c:Array Value}(h:∀x∈c.toList,me x):me (.agg c):=λm=>.agg rfl λi hi _=>h _ (by simp) m
def uk(ac:∀t i v,info t=some i->i.zero=some v->me v){fs:Array Field}(h:fb info fs=some i)(hv:i.zero=some v):me v:=by
 unfold fb at h;simp only[cH,cG]at h;obtain⟨st,W,U⟩:=h;rw[<-Array.forIn_toList]at W
 have hI:=BZ (I:=λs:Array Field×Nat×Nat×Nat×Nat×Bool×Bool×Option (Array Value)×String=>∀zs,s.2.2.2.2.2.2.2.1=some zs->∀x∈zs.toList,me x) (λa s r Y hs=>by
  cases hi:info a.type with
  |none=>rw[hi]at Y;cases Y
  |some j=>
   have aa:∀zs,(s.2.2.2.2.2.2.2.1.bind λz1=>j.zero.bind λz2=>pure (z1++z2.cells))=some zs->∀x∈zs.toList,me x:=by
    intro zs O;rw[cG]at O;obtain⟨z1,e1,O⟩:=O;rw[cG]at O;obtain⟨z2,e2,O⟩:=O;cases O;intro x hx;rw[Array.toList_append,List.mem_append]at hx;exact hx.elim (hs z1 e1 x) ((ac a.type j z2 hi e2).cells x)
   have ab:∀zs,(none:Option (Array Value))=some zs->∀x∈zs.toList,me x:=λzs O=>by cases O
   have key:∀zs,(if s.2.1+j.size > Made.mostCells then none else s.2.2.2.2.2.2.2.1.bind λz1=>j.zero.bind λz2=>pure (z1++z2.cells))=some zs->∀x∈zs.toList,me x:=by
    intro zs O;split at O
    cases O;exact aa zs O
   rw[hi]at Y;simp only[cI]at Y
   repeat' split at Y
   all_goals first
    |(cases Y;done)
    |(simp only[cG]at Y
      obtain⟨tg,_,Y⟩:=Y
      cases Y
      first|exact⟨_,.inl rfl,ab⟩|exact⟨_,.inl rfl,aa⟩|exact⟨_,.inl rfl,key⟩)
    |(cases Y;first|exact⟨_,.inl rfl,ab⟩|exact⟨_,.inl rfl,aa⟩|exact⟨_,.inl rfl,key⟩)) fs.toList (s:=(#[],0,0,1,0,false,true,some #[],"struct {")) (by
   intro zs O x hx;cases O
   simp at hx) W
 have O:∃zs,st.2.2.2.2.2.2.2.1=some zs/\v=.agg zs:=by
  split at U
  cases U;simp only[cJ]at hv;obtain⟨zs,h1,h2⟩:=hv;exact⟨zs,h1,h2.symm⟩
  cases U;simp only[cJ]at hv;obtain⟨zs,h1,h2⟩:=hv;exact⟨zs,h1,h2.symm⟩
 obtain⟨zs,h1,rfl⟩:=O;exact .agg (hI zs h1)
def Ic(W:∀t i v,info t=some i->i.zero=some v->me v)(h:fa info d=some i)(U:i.zero=some v):me v:=by
 have O:∀(d:TypeDesc)(s:String)(z:Value)(c:Bool)(n:Nat),(Made.word d s z c n).zero=some v->Plain z->me v:=by
  intro d s z c n e hz;cases e;exact λm=>VR.plain hz
 cases d with
 |struct fs=>exact uk W h U|pointer e=>
  simp only[fa,cH,cG]at h;obtain⟨j,_,h⟩:=h;split at h
  cases h;split at h
  cases h;simp only[cG]at h;obtain⟨s,_,h⟩:=h;cases h;exact O _ _ _ _ _ U trivial;simp only[cG]at h;obtain⟨s,_,h⟩:=h;cases h;exact O _ _ _ _ _ U trivial
 |slice e=>
  simp only[fa,cH,cG]at h;obtain⟨_,_,_,_,h⟩:=h;cases h;exact O _ _ _ _ _ U trivial
 |map k e=>
  simp only[fa,cH,cG]at h;obtain⟨_,_,_,_,_,_,_,_,h⟩:=h;cases h;exact O _ _ _ _ _ U trivial
 |chan dr e=>
  simp only[fa,cH,cG]at h;obtain⟨_,_,_,_,h⟩:=h;cases h;exact O _ _ _ _ _ U trivial
 |func ps rs b=>
  simp only[fa,cH,cG]at h;obtain⟨_,_,h⟩:=h;cases h;exact O _ _ _ _ _ U trivial
 |array n e=>
  simp only[fa,cH,cG]at h;obtain⟨j,hj,_,_,h⟩:=h;cases h;split at U
  cases U;split at U
  cases U;exact .agg (by simp);rw[cJ]at U;obtain⟨z,h1,rfl⟩:=U;refine .agg λx Y=>?_;have hz:=(W e j z hj h1).cells;simp only[bs,Array.mem_flatten,Array.mem_replicate]at Y;obtain⟨xs,⟨_,rfl⟩,Y⟩:=Y;exact hz x (bs.2 Y)
 |_=>cases h
def wN(O:∀(t:Nat)(i:TypeInfo)v,T.types[t]?=some i->i.zero=some v->me v):∀(f:Nat)t i v,fd T f t=some i->i.zero=some v->me v
 |0,_,_,_,h,_=>by cases h
 |f+1,t,i,v,h,U=>by
  unfold fd at h
  split at h
  .exact O t i v h U
  .rw[cG]at h
   obtain⟨d,_,h⟩:=h
   exact Ic (wN O f) h U
def zE(h:fa info d=some i):i.methods=#[]:=by
 cases d with
 |struct U=>
  have h:fb info U=some i:=h;unfold fb at h;simp only[cH,cG]at h;obtain⟨st,O,h⟩:=h;split at h <;>(cases h;rfl)
 |pointer e=>
  simp only[fa,cH,cG]at h;obtain⟨j,_,h⟩:=h;split at h
  cases h;split at h
  cases h;simp only[cG]at h;obtain⟨s,_,h⟩:=h;cases h;rfl;simp only[cG]at h;obtain⟨s,_,h⟩:=h;cases h;rfl
 |slice e=>
  simp only[fa,cH,cG]at h;obtain⟨_,_,_,_,h⟩:=h;cases h;rfl
 |map k e=>
  simp only[fa,cH,cG]at h;obtain⟨_,_,_,_,_,_,_,_,h⟩:=h;cases h;rfl
 |chan W e=>
  simp only[fa,cH,cG]at h;obtain⟨_,_,_,_,h⟩:=h;cases h;rfl
 |func ps rs b=>
  simp only[fa,cH,cG]at h;obtain⟨_,_,h⟩:=h;cases h;rfl
 |array n e=>
  simp only[fa,cH,cG]at h;obtain⟨j,Y,_,_,h⟩:=h;cases h;rfl
 |_=>cases h
def Iu(O:∀(t:Nat)(i:TypeInfo),T.types[t]?=some i->i.methods.find? (·.name == "")=none):∀(f:Nat)t i,fd T f t=some i->i.methods.find? (·.name == "")=none
 |0,_,_,h=>by cases h
 |f+1,t,i,h=>by
  unfold fd at h
  split at h
  .exact O t i h
  .rw[cG]at h
   obtain⟨d,_,h⟩:=h
   rw[zE h];rfl
def ul(p:Nat)(a:Touch):cd #[] p≠some a:=by simp[cd,hA]
def Jq{P:Program}{E:Env P}{Post:Value->World->Prop}{f:bA}{gP:Func}{c:Code}{args O:Array Value}{W wl:World}{m:Ren}(hZ:E.Z=ending P Post)(Y:∀b,E.fK b->b<W.heap.size/\W.heap[b]?=E.w0.heap[b]?)(ab:∀r b,m.blk r=some b->E.fK b->m.loose r)(aa:∀b,b<E.w0.heap.size->E.fK b\/E.w0.heap[b]?=some pF)(ac:E.w0.heap.size<=W.heap.size)(ad:W.os=E.w0.os/\W.output=E.w0.output)(hT:E.T=[])(hf:P.funcs[f]?=some gP)(hb:gP.body=some c)(ae:Rg E m)(hw:WR m wl W)(U:eD m O args)
  (h:dh E [⟨f,O++bq (gP.ntmps-O.size) hQ,[.code c]⟩] wl []):ux P Post (solo (G (g8 P f args .normal) []) W) #[]:=by
 have hE:g8 P f args .normal=fY f (args++bq (gP.ntmps-args.size) hQ) [.code c]:=by simp[g8,fY,hf,hb]
 have af:Co P E.fK E.w0 (λ_=>False) (λ_=>.quit 0) m wl #[G (g8 P f args .normal) []] W #[]:=by
  refine⟨hw,λi g hi hg=>?_,λ_ _=>rfl,λi m' hm=>(by cases hm),λi j m1 m2 _ hm _=>(by cases hm),λi j J1 J2 _ hJ _=>(by cases hJ),λp a b r U=>absurd U (ul p a),λi m' hm=>(by cases hm),λi J hJ=>(by cases hJ),λp a b U=>absurd U (ul p a),λop ag=>(by simp at ag),λp a U=>absurd U (ul p a),past_nil.clean,Y,ab,λi m' hm=>(by cases hm),λi J hJ=>(by cases hJ),ac,ad,λp a b U=>absurd U (ul p a),nofun,λb hb=>(aa b hb).imp id .inr⟩;have:=by simpa using(bo.1 hg).1
  omega
 have:=h m _ _ _ W none _ _ [] ae af ⟨λr vs hr=>(by cases hr),λi J n hi=>(by cases hi),λr hr=>(by cases hr)⟩ (by rw[hE,hT];exact .cons (o:=⟨f,O++bq _ hQ,[.code c]⟩) (by rw[<-U.size];exact U.append (.replicate _ (.undef m))) .nil) rfl;rw[hZ]at this;exact this
variable {st:Bool} {f n:Nat} {fF gl:Nat->Bool} {P:Program} {m:Ren}
def OO(M:Nat)(n:Nat):Bool:=M.testBit n
def TL(P:Program)(fF gl:Nat->Bool)(st:Bool)(f:Nat):Bool:=match P.funcs[f]? with
 |some fn=>fn.name != "runtime.NumGoroutine" && (match fn.body with
  |some c=>jE (λo=>EB P fF gl st o.op) c|none=>false)
 |none=>false
def OW(P:Program)(fF gl:Nat->Bool)(st:Bool):Oper->Prop:=λo=>EB P fF gl st o.op=true
def QX(h:TL P fF gl st f=true)(hm:m.ok=OW P fF gl st):nJ P m f:=by
 unfold TL at h
 cases U:P.funcs[f]? with
 |none=>rw[U]at h;cases h
 |some fn=>
  rw[U]at h;simp only[en]at h;obtain⟨W,O⟩:=h;refine⟨fn,U,by simpa using W,?_⟩
  cases hb:fn.body with
  |none=>rw[hb]at O;cases O
  |some c=>
   rw[hb]at O;exact .inl ⟨c,rfl,by rw[hm];exact nI O⟩
def Qw(P:Program)(fF gl:Nat->Bool)(st:Bool)(ex:Nat->Bool)(n:Nat):Bool:=(cZ n).all λf=>!fF f || ex f || TL P fF gl st f
def Ep{ex:Nat->Bool}(h:Qw P fF gl st ex n=true)(W:∀f,fF f=true->f<n)(hm:m.ok=OW P fF gl st)(O:∀f,ex f=true->fF f=true->nJ P m f):∀f,fF f=true->nJ P m f:=by
 intro f U;unfold Qw at h;rw[List.all_eq_true]at h;have:=h f (by simpa using W f U);simp only[U,Bool.not_true,Bool.false_or,ey]at this;rcases this with x|x
 exact O f x U;exact QX x hm
def SM(P:Program):Bool:=P.toTables.types.all λi=>match i.zero with
 |some v=>GZ 40 v|none=>true
def SL(P:Program):Bool:=P.toTables.types.all λi=>(i.methods.find? (·.name == "")).isNone
def PA(h:SM P=true)(hmb:SL P=true):mJ P:=by
 have W:∀(t:Nat)(i:TypeInfo)v,P.toTables.types[t]?=some i->i.zero=some v->me v:=by
  intro t i v ht U m;unfold SM at h;rw[bt]at h;obtain⟨O,rfl⟩:=bo.1 ht;have:=h t O;rw[U]at this;exact AD this m
 have Y:∀(t:Nat)(i:TypeInfo),P.toTables.types[t]?=some i->i.methods.find? (·.name == "")=none:=by
  intro t i ht;unfold SL at hmb;rw[bt]at hmb;obtain⟨O,rfl⟩:=bo.1 ht;simpa using hmb t O
 refine⟨λt i v ht U m=>?_,λt i ht=>?_⟩;have ht:P.toTables.info? t=some i:=ht;unfold Tables.info? at ht;split at ht;exact W t i v ht U m;exact wN W _ t i v ht U m;have ht:P.toTables.info? t=some i:=ht;unfold Tables.info? at ht;split at ht;exact Y t i ht;exact Iu Y _ t i ht
def Uv:Nat:=16296291696013673141605707346198838935449560434141168097322037386652118454261163305065086976
def SI:Nat:=1001570083691504317195401104025185627287091139835923004101470451620903362718842486784
def VK:Nat:=7237005590390986380874373471172107595023005440485116358029236060886847717376
def tP:Nat->Bool:=OO Uv
def uE:Nat->Bool:=OO SI
def NR:Nat->Bool:=OO VK
def rj(g:Nat):Bool:=g==0 || g==2 || g==3 || g==4
def DF(_:Nat):Bool:=false
def NW:mJ prog:=PA (by kernel_rfl) (by kernel_rfl)
def Ue:Qw prog tP rj true (λf=>f==100 || f==232) 304=true:=by kernel_rfl
def sendAll:Qw prog uE DF false (λ_=>false) 304=true:=by kernel_rfl
def Uy:Qw prog NR DF false (λ_=>false) 304=true:=by kernel_rfl
def follows:prog.follows .rangeFuncRecover=true:=by kernel_rfl
def zN:prog.globals.size=5:=by kernel_rfl
def ub{M:Nat}(O:M >>> n=0)(h:M.testBit f=true):f<n:=by
 apply ee;intro U;have e:(M >>> n).testBit (f-n)=M.testBit f:=by rw[Nat.testBit_shiftRight,Nat.add_sub_of_le (Nat.le_of_not_lt U)]
 rw[O,h,Nat.zero_testBit]at e;cases e
def To(f:Nat)(h:tP f=true):f<304:=ub (M:=Uv) (by kernel_rfl) h
def RX(f:Nat)(h:uE f=true):f<304:=ub (M:=SI) (by kernel_rfl) h
def Uo(f:Nat)(h:NR f=true):f<304:=ub (M:=VK) (by kernel_rfl) h
def DJ{P:Program}{fF gl:Nat->Bool}{m:Ren}(O:m.ok=OW P fF gl st)(U:m.fF=λf=>fF f=true)(hE:ug P m)(W:st=true->gL m)(hg:∀g,gl g=true->m.blk g=some g):lZ P m (λg=>gl g=true) st:=
 ⟨hE,W,λh=>h.elim,hg,λo Y=>by rw[O]at Y;rw[U];exact vQ Y⟩
def Mc:Extern.findNext f100=none:=by kernel_rfl
def Mn:Extern.findNext f232=none:=by kernel_rfl
def NF:Extern.find f100=some (Extern.SlicesOverlaps.overlaps f100.params f100.resultTypes):=by kernel_rfl
def M9:Extern.find f232=some Extern.BytealgCompare.compare:=by kernel_rfl
section
variable {m:Ren}
def call100(O:gL m):nJ prog m 100:=
 ⟨f100,by kernel_rfl,by simp[f100],.inr ⟨by kernel_rfl,Mc,_,NF,λm' a Y U W=>Kr (O.mono U) W⟩⟩
def call232:nJ prog m 232:=
 ⟨f232,by kernel_rfl,by simp[f232],.inr ⟨by kernel_rfl,Mn,_,M9,λm' a U W O=>NE O⟩⟩
def Tn(O:m.ok=OW prog tP rj true)(U:m.fF=λf=>tP f=true)(hG:m.G=5)(W:gL m)(hg:∀g,rj g=true->m.blk g=some g):lZ prog m (λg=>rj g=true) true:=
 DJ O U ⟨NW,by rw[hG,zN],λf Y=>by
  rw[U]at Y;refine Ep Ue To O (λf he _=>?_) f Y;simp only[ey,beq_iff_eq]at he;rcases he with rfl|rfl
  exact call100 W
  exact call232,follows⟩ (λ_=>W) hg
def R3(O:m.ok=OW prog uE DF false)(U:m.fF=λf=>uE f=true)(Y:m.G=5):lZ prog m (λg=>DF g=true) false:=
 DJ O U ⟨NW,by rw[Y,zN],λf W=>by
  rw[U]at W
  exact Ep sendAll RX O (λf he _=>by cases he) f W,follows⟩ (λh=>by cases h) (λg hg=>by cases hg)
def U2(O:m.ok=OW prog NR DF false)(U:m.fF=λf=>NR f=true)(Y:m.G=5):lZ prog m (λg=>DF g=true) false:=
 DJ O U ⟨NW,by rw[Y,zN],λf W=>by
  rw[U]at W
  exact Ep Uy Uo O (λf he _=>by cases he) f W,follows⟩ (λh=>by cases h) (λg hg=>by cases hg)
end
end
end Go.Proofs.YtocbogeoffeolaaGreatDoor
