import Derived.Test.YtocbogeoffeolaaGreatDoorFouAE
import Derived.Conc.Beside
import Derived.Conc.CrowdComm
import Derived.Test.YtocbogeoffeolaaGreatDoorChecked
set_option linter.all false
set_option maxHeartbeats 8000000
set_option maxRecDepth 1000000
open Array renaming getElem?_setIfInBounds_ne->bl,getElem?_eq_some_iff->bm,getElem?_eq_getElem->bn,replicate->bo,mem_iff_getElem->bp,mem_toList_iff->bq,all_eq_true->br,getElem?_setIfInBounds_self_of_lt->bs,getD_eq_getD_getElem?->bt,empty_append->bu,getElem?_push->bv,getElem?_map->bw,append_empty->bx,swapAt!->bz,ext->b4
open Go renaming stepG->b5,communicate->b6,yielded->b7,FuncId->b8,Trace->b9,unwind->bA,goexitEntry->bB,ways->bC,execOp->bD,runN->bE,lone->bF,step_lone_ended->bG,TypeId->bH,partners->bI,doReturn->bJ,step_lone_go->bK,commResult->bL,results->bM,seen->bN,oneG->bO,offeredValue->bP,stepT->bQ,runT->bR,HappensBefore->bS,Race->bT
open Go.Conc renaming mem_ofEvents->bU,offersAt_of_not_blocked->bV,runT_crowd_go->bW,served->bX,rcase->bY,crowd->bZ,touchAt->ca,offersAt->cb,ofEvents_eq->cd,scase->cf,getElem?_stand->cg,getElem?_append_old->ci,offersAt_ph->cj,noRace_append->ck,offersAt_parked_send->cm,mem_seen->cn,Knows->cq,lt_size_of_getElem?->cr,crowd_pick->ct,knows_own->cu,finishPartner_at->cv,runT_crowd_comm->cw,mem_of_getElem?->cy,again_running->cz,woken_quitsD->c7,partners_one->c8,partners_nil->c9,illMade->cA,crowd_waits->cB,woken->cC,awake->cD
open Option renaming bind_eq_some_iff->cE,bind_eq_bind->cF,bind_some->cG,map_eq_some_iff->cH,map_some->cI,getD_some->cJ
open Go.ConcN renaming upd_same->cK,upd_ne->cL,upd->cM
open List renaming mem_cons->cN,not_mem_nil->cO,mem_map->cP,mem_iff_getElem?->cQ,mem_toArray->cR,mem_filter->cS,getElem?_cons_zero->cT,getElem?_toArray->cU,getElem?_eq_some_iff->cV,mem_of_getElem?->cW,range->cX
open Nat renaming lt_of_lt_of_le->cY,le_refl->cZ,le_trans->da,eq_zero_or_pos->db,exists_eq_add_of_le->dc
open Go.MemOp renaming ofEvents->de
open Option.some renaming injEq->dg,inj->dk
open Classical renaming byContradiction->dt,choose->ee,choose_spec->ef
open Bool renaming and_eq_true->ek,false_eq_true->en,or_eq_true->et,not_eq_true->eC
open Go.Made renaming reckon->fa,reckonStruct->fb,infoAt->fd
open Go.Region renaming wanted->fk,schedule->fm
open Go.stepG renaming apply->ft,exec->fB
open Go.MemAct renaming ofEvent->ga,touch?->gc
open Go.Stepped.next renaming injEq->gd
open Go.GStep renaming after->ge
open Go.Goroutine renaming callers->gn,frame->gt,again->gv,status->gx,finishComm->gy,endsWith->g6,canRun->g7
open Ne renaming symm->g8
open Go.Frame renaming enter->g9,catches->gA,finish->gB
open Go.Question renaming forced->hA
open Go.Trace renaming act?->hC,g?->hD
open Go.Sem renaming run->hM,bind->hO,runT->hQ
open Go renaming undef->hU
namespace Go.Proofs.YtocbogeoffeolaaGreatDoor
open Go.Proofs.Tryz
section
open Go.Conc
variable {fr':Frame} {g:Goroutine} {cs':List Frame}
structure LS where
 fr:Frame
 cs:List Frame
 w:World
def LS.m(S:LS):Machine:=bF S.fr S.cs S.w
inductive G1(P:Program):LS->LS->Prop
 |go {fr cs w fg fh w₁ es}:b5 P true (G fr cs) w=.go (G fg fh) w₁ es->G1 P ⟨fr,cs,w⟩ ⟨fg,fh,w₁⟩|send {fr cs w f0 c0 r v z w₁ es cap buf gI rcvd tm}:b5 P true (G fr cs) w=.comm (G f0 c0) #[⟨.chan (some r),some v,z⟩] true .send w₁ es->w₁.heap[r]?=some (.chan cap buf false gI rcvd tm)->buf.size<cap->
   G1 P ⟨fr,cs,w⟩ ⟨f0.finish (bL #[⟨.chan (some r),some v,z⟩] .send 0 hU false),c0,{w₁ with heap:=w₁.heap.setIfInBounds r (.chan cap (buf.push v) false (gI+1) rcvd tm)}⟩
section
variable {P:Program} {m:Ren} {T:List Frame} {gl:Nat->Prop} {st:Bool}
theorem kE(hm:¬m.il){fr:Frame}{cs:List Frame}(O:dR P m T (fr::cs) (fr'::cs')):¬AtClose fr:=by
 rintro⟨_,a,t,c,args,ds,e⟩;have h:=O.qc.defers;rw[e]at h;revert h;generalize fr'.defers=l;intro h
 cases h with
 |@cons _ d' _ _ U _=>
  obtain⟨W,Y⟩:=d';have ht:=U.target
  cases ht with
  |builtin _ _ _ h=>exact hm h
abbrev FD:Array Goroutine:=#[{(default:Goroutine)with status:=.finished}]
abbrev s6:Rest:={timers:=#[],alone:=none,slice:=none}
theorem qD{fr:Frame}{cs:List Frame}{w:World}{k:Array CommCase}{b:Bool}{sh:CommShape}{w₁:World}{es:Array Event}(h:b5 P true (G fr cs) w=.comm g k b sh w₁ es):step P (bF fr cs w)=(b6 P s6 FD 0 g k b sh w₁).1:=by
 unfold G at h;rw[step,bQ,move_lone];simp[bR,bF,bz,h]
theorem CD{fr:Frame}{cs:List Frame}{w:World}{w₁:World}{es:Array Event}(U:g.status=.running\/g.status=.blocked)(h:b5 P true (G fr cs) w=.go g w₁ es):step P (bF fr cs w)=.next (bO g w₁):=by
 unfold G at h;rw[step,bQ,move_lone];rcases U with O|O<;>simp[bR,bF,bO,bz,h,O]
theorem yY:∀(n:Nat){g:Goroutine}{w:World},g.dyingOn P->∀fr cs w',bE P n (bO g w)≠.next (bF fr cs w')
 |0,g,w,h,fr,cs,w',e=>by
  simp only[bE,gd,bO,bF,Machine.mk.injEq]at e
  obtain⟨_,e,_⟩:=e
  obtain⟨_,d,U,_⟩:=h;have:=congrArg (λx=>x[0]?) e;simp only[cU,cT,dg]at this;rw[this]at U;cases U
 |n+1,g,w,h,fr,cs,w',e=>by
  rcases step_dyingOn (w:=w) h with⟨g',w1,O,W⟩|⟨o,w1,O,Y⟩
  simp only[bE,O]at e;exact yY n W _ _ _ e;simp only[bE,O]at e;cases e
theorem AC(n:Nat){w:World}(h:g.status=.blocked)(fr:Frame)(cs:List Frame)(w':World):bE P n (bO g w)≠.next (bF fr cs w'):=by
 intro e
 cases n with
 |zero=>
  simp only[bE,gd,bO,bF,Machine.mk.injEq]at e;obtain⟨_,e,_⟩:=e;have:=congrArg (λx=>x[0]?) e;simp only[cU,cT,dg]at this;rw[this]at h;cases h
 |succ n=>
  obtain⟨f,c,s,O,off⟩:=g;subst h;obtain⟨U,w1,W,Y⟩:=endWith_ended w 2 ..
  have:step P (bO {frame:=f,callers:=c,status:=.blocked,dying:=O,offers:=off} w)=.ended U w1:=by
   simp[step,bQ,move,ask,askOn,bO,runnable_eq,due,ahead,g7,List.range_succ,pure];rw[W]
  simp only[bE,this]at e;cases e
theorem tQ{r:Nat}{v z:Value}{f0:Frame}{c0:List Frame}{w₁:World}{cap:Nat}{buf:Array Value}{gI O:Nat}{tm:Bool}(W:w₁.heap[r]?=some (.chan cap buf false gI O tm)) :
  (buf.size<cap/\(b6 P s6 FD 0 (G f0 c0) #[⟨.chan (some r),some v,z⟩] true .send w₁).1=.next (bF (f0.finish (bL #[⟨.chan (some r),some v,z⟩] .send 0 hU false)) c0 {w₁ with heap:=w₁.heap.setIfInBounds r (.chan cap (buf.push v) false (gI+1) O tm)}))\/
  (¬buf.size<cap/\((∃g w2,g.status=.blocked/\(b6 P s6 FD 0 (G f0 c0) #[⟨.chan (some r),some v,z⟩] true .send w₁).1=.next (bO g w2))\/∃o w2,(b6 P s6 FD 0 (G f0 c0) #[⟨.chan (some r),some v,z⟩] true .send w₁).1=.ended o w2)):=by
 by_cases hb:buf.size<cap;simp[b6,W,ways,bI,hb,choose,hM,hA,bind,hO,pure,gy,bF,G];refine .inr ⟨hb,?_⟩
 cases U:waitingAt s6 #[⟨.chan (some r),some v,z⟩] w₁ with
 |none=>exact .inr ⟨_,_,by simp[b6,W,ways,bI,hb,U];exact⟨rfl,rfl⟩⟩|some w2=>exact .inl ⟨{G f0 c0 with status:=.blocked,offers:=some (#[⟨.chan (some r),some v,z⟩],.send)},w2,rfl,by simp[b6,W,ways,bI,hb,U,bO]⟩
theorem G5{ch v z:Value}{f0:Frame}{c0:List Frame}{w₁:World}(W:∀r,ch=.chan (some r)->False) :
  ((∃g w2,g.status=.blocked/\(b6 P s6 FD 0 (G f0 c0) #[⟨ch,some v,z⟩] true .send w₁).1=.next (bO g w2))\/∃o w2,(b6 P s6 FD 0 (G f0 c0) #[⟨ch,some v,z⟩] true .send w₁).1=.ended o w2):=by
 by_cases U:ch=.chan none;subst U
 cases O:waitingAt s6 #[⟨.chan none,some v,z⟩] w₁ with
 |none=>exact .inr ⟨_,_,by simp[b6,ways,O];exact⟨rfl,rfl⟩⟩|some w2=>exact .inl ⟨{G f0 c0 with status:=.blocked,offers:=some (#[⟨.chan none,some v,z⟩],.send)},w2,rfl,by simp[b6,ways,O,bO]⟩
 cases ch with
 |chan x=>
  cases x with
  |none=>exact absurd rfl U|some r=>exact(W r rfl).elim
 |_=>simp[b6]
def Open(m:Ren):Prop:=∀r r',m.ch r=some r'->∃cap buf gI O tm,m.kI r=some (.chan cap buf false gI O tm)
theorem Bl(hX:l6 P m gl st)(hm:¬m.il)(ho:Open m){fr:Frame}{cs:List Frame}(hS:dR P m T (fr::cs) (fr'::cs')){w w':World}(hw:WR m w w'){n:Nat}{f1:Frame}{c1:List Frame}{w1:World}
  (h:bE P (n+1) (bF fr cs w)=.next (bF f1 c1 w1)):∃S,G1 P ⟨fr,cs,w⟩ S/\bE P n S.m=.next (bF f1 c1 w1):=by
 have hn:=kE hm hS;have U:=NO hX hS hn hw;generalize hs:b5 P true _ w=s at U
 cases U with
 |go g c w₁ es=>
  refine⟨⟨g,c,w₁⟩,.go hs,?_⟩;have:=bK (by unfold G at hs;rw[hs];rfl);simp only[bE,this]at h;exact h
 |ended o w₁ es=>
  have:=bG (by unfold G at hs;rw[hs];rfl);simp only[bE,this]at h;cases h
 |dies g w₁ es hd=>
  have:=CD hd.1 hs;simp only[bE,this]at h;exact absurd h (yY n hd _ _ _)
 |spawn g c d w₁ es=>
  obtain⟨ab,W,Y,_⟩:=align hw;obtain⟨_,_,_,_,_,_,_,_,_,_,_,_,ac,_⟩:=M4 (main':=true) hX hS hn W Y hs;exact absurd ac hm
 |comm g c k b sh w₁ es=>
  obtain⟨ab,W,Y,_⟩:=align hw;obtain⟨f0,c0,dx,ah,ai,k',ad,aj,e0,e1,e2,e3,e4,e5,e6,e7,e8⟩:=uo (main':=true) hX hS hn W Y hs;obtain⟨rfl,rfl,ch,v,z,rfl⟩:=e2.resolve_left hm;have ae:=qD hs;simp only[bE,ae]at h
  have dead:((∃gg w2,gx gg=.blocked/\(b6 P s6 FD 0 (G g c) #[⟨ch,some v,z⟩] true .send w₁).1=.next (bO gg w2))\/∃o w2,(b6 P s6 FD 0 (G g c) #[⟨ch,some v,z⟩] true .send w₁).1=.ended o w2)->False:=by
   rintro(⟨gg,w2,hg,e⟩|⟨o,w2,e⟩);rw[e]at h;exact AC n hg _ _ _ h;rw[e]at h;cases h
  by_cases hc:∃r,ch=.chan (some r);obtain⟨r,rfl⟩:=hc
  have O:∃r',dx.ch r=some r':=by
   revert e5;generalize k'.toList=l;intro e5
   cases e5 with
   |@cons _ q _ _ hx _=>
    obtain⟨ak,al,am⟩:=q;have hv:=hx.chan
    cases hv with
    |chan hb=>exact⟨_,hb⟩
  obtain⟨r',O⟩:=O;rw[e7.mz hm]at O;obtain⟨cap,buf,gI,ag,tm,af⟩:=ho r r' O;have aa:=(e6.kI r _ (by rw[e7.kI];exact af)).1;rcases tQ (P:=P) (v:=v) (z:=z) (f0:=g) (c0:=c) aa with⟨hb,e⟩|⟨hb,e⟩
  rw[e]at h;exact⟨_,.send hs aa hb,h⟩;exact(dead e).elim;exact(dead (G5 λr e=>hc ⟨r,e⟩)).elim
end
variable {S S':LS} {w w':World}
def LS.on(S:LS)(τ:Nat->Question->Nat):LS:=⟨S.fr,S.cs,tp S.w τ⟩
def A8(τ:Nat->Question->Nat)(w:World):Prop:=∀i,i<w.drawn->τ i=w.tape i
def Fin(P:Program)(S:LS):Prop:=S.cs=[door P]/\S.fr.mode≠.run/\S.fr.defers=[]/\S.fr.roundOf=none
structure wF(P:Program)(gl:Nat->Prop)(st:Bool)(m:Ren)(T:List Frame)(S:LS)(fr':Frame)(cs':List Frame)(w':World):Prop where
 pA:l6 P m gl st
 il:¬m.il
 op:Open m
 stack:dR P m T (S.fr::S.cs) (fr'::cs')
 world:WR m S.w w'
theorem ER{f f':Frame}{c O:List Frame}(h:bF f c w=bF f' O w'):f=f'/\c=O/\w=w':=by
 simp only[bF,Machine.mk.injEq]at h;obtain⟨U,W,_⟩:=h;have:=congrArg (λx=>x[0]?) W;simp only[cU,cT,dg,Goroutine.mk.injEq]at this;exact⟨this.1,this.2.1,U⟩
theorem LS.JP(h:S.m=S'.m):S=S':=by
 obtain⟨f,c,w⟩:=S;obtain⟨rfl,rfl,rfl⟩:=ER h;rfl
section
variable {P:Program} {m:Ren} {T:List Frame} {gl:Nat->Prop} {st:Bool}
theorem G1.next(h:G1 P S S'):step P S.m=.next S'.m:=by
 cases h with
 |go h=>exact bK (by unfold G at h;rw[h];rfl)|send h O hb=>
  have:=qD h;rcases tQ (P:=P) (v:=_) (z:=_) (f0:=_) (c0:=_) O with⟨_,e⟩|⟨U,_⟩
  exact this.trans e;exact absurd hb U
theorem G1.loc(O:wF P gl st m T S fr' cs' w')(h:G1 P S S'):S.w.drawn<=S'.w.drawn/\S'.w.tape=S.w.tape/\∀τ,uD τ S.w S'.w->G1 P (S.on τ) (S'.on τ):=by
 cases h with
 |go h=>
  obtain⟨W,Y,h3⟩:=Qr O.pA O.stack (kE O.il O.stack) O.world h;exact⟨W,Y,λτ U=>by obtain⟨es,e⟩:=h3 τ U;exact .go e⟩
 |send h hc hb=>
  obtain⟨W,Y,h3⟩:=NS O.pA O.stack (kE O.il O.stack) O.world h;exact⟨W,Y,λτ U=>by obtain⟨es,e⟩:=h3 τ U;exact .send e hc hb⟩
def Ren.put(m:Ren)(r:Nat)(o:Obj):Ren:={m with kI:=λx=>if x=r then some o else m.kI x}
theorem Ren.oD(m:Ren)(r:Nat)(o:Obj):m.Le (m.put r o):=⟨λ_ _ h=>h,λ_ _ h=>h,λ_ _ _=>Iff.rfl,λ_ h=>h,rfl,rfl,rfl,rfl,rfl,rfl,rfl⟩
theorem WR.put(h:WR m w w'){r:Nat}{o:Obj}(ho:∃c b x s y t,o=.chan c b x s y t)(W:∃c b x s y t,w.heap[r]?=some (.chan c b x s y t)):WR (m.put r o) {w with heap:=w.heap.setIfInBounds r o} w':=by
 obtain⟨c0,b0,x0,s0,y0,t0,W⟩:=W;have aa:=jE W
 have ne:∀s s',m.blk s=some s'->r≠s:=by
  rintro s s' hb rfl;obtain⟨x,x',O,_,h3⟩:=h.obj _ _ hb;rw[W]at O;cases O;cases h3
 have get:∀s,r≠s->(w.heap.setIfInBounds r o)[s]?=w.heap[s]?:=λs U=>bl U;refine⟨λs s' hb=>?_,λs s' c e f c' e' f' hb O Y hn=>?_,λs s' c e f c' e' f' hb O Y hl=>?_,λs s' hb=>by simpa using h.Nc s s' hb,(show m.G<=(w.heap.setIfInBounds r o).size by simpa using h.Na),h.JQ,h.os,λs x U=>?_,λs s' hb hl=>?_,λs U=>?_,λs i v hv=>?_⟩;obtain⟨x,x',O,Y,h3⟩:=h.obj s s' hb;exact⟨x,x',by rw[get s (ne s s' hb)];exact O,Y,h3.mono (Ren.oD m r o)⟩;exact h.fz s s' _ _ _ _ _ _ hb (by rw[<-get s (ne s s' hb)];exact O) Y hn;exact h.all s s' _ _ _ _ _ _ hb (by rw[<-get s (ne s s' hb)];exact O) Y hl;by_cases e:s=r;subst e;simp only[Ren.put,if_true,dg]at U;subst U;exact⟨by simp[aa],ho⟩;simp only[Ren.put,e,if_false]at U;obtain⟨g1,g2⟩:=h.kI s x U;exact⟨by rw[get s (g8 e)];exact g1,g2⟩;obtain⟨c,e,f,hx⟩:=h.lk s s' hb hl;exact⟨c,e,f,by rw[get s (ne s s' hb)];exact hx⟩;obtain⟨O,c,e,f,hx⟩:=h.dead s U;refine⟨O,c,e,f,?_⟩;rw[get s];exact hx;rintro rfl;rw[W]at hx;cases hx;obtain⟨s',hb,hp⟩:=h.rY s i v hv;exact⟨s',hb,λc e f c' e' f' x g1=>hp c e f c' e' f' x (by rw[<-get s (ne s s' hb)];exact g1)⟩
theorem wF.own(O:wF P gl st m T S fr' cs' w')(hf:¬Fin P S)(h:G1 P S S'):∃dx aa ab w₁,wF P gl st dx T S' aa ab w₁:=by
 obtain⟨ag,ac,ad,_⟩:=align O.world;have hn:=kE O.il O.stack
 cases h with
 |go h=>
  obtain⟨dx,f,c,nU,es,_,h1,h2,h3,h4,_⟩:=yT (main':=true) O.pA O.stack hn (λa b c d=>hf ⟨a,b,c,d⟩) ac ad h;exact⟨dx,f,c,nU,O.pA.mono h1,by rw[h1.il];exact O.il,λr r' hr=>by rw[h4.mz O.il]at hr;rw[h4.kI];exact O.op r r' hr,h2,h3⟩
 |@send _ _ _ f0 c0 r v z w₁ es cap buf gI Y tm h hc hb=>
  obtain⟨f1,c1,dx,ae,af,k',nU,ah,e0,_,_,h1,h2,h3,h4,h5,_⟩:=uo (main':=true) O.pA O.stack hn ac ad h
  obtain⟨rfl,rfl⟩:f0=f1/\c0=c1:=by
   have:=congrArg gt e0;have h':=congrArg gn e0;exact⟨this,h'⟩
  have U:=(h2.qc).finish (VR.undef dx);refine⟨dx.put r (.chan cap (buf.push v) false (gI+1) Y tm),ae.finish hU,af,nU,(O.pA.mono h1).mono (Ren.oD ..),?_,?_,?_,?_⟩;show ¬dx.il;rw[h1.il];exact O.il;intro s s' W;by_cases e:s=r;exact⟨cap,buf.push v,gI+1,Y,tm,by simp[Ren.put,e]⟩;have W:dx.ch s=some s':=W;rw[h5.mz O.il]at W;obtain⟨a,b,c,d,e',hx⟩:=O.op s s' W;exact⟨a,b,c,d,e',by simp only[Ren.put,e,if_false];rw[h5.kI];exact hx⟩;exact(h2.set (.refl dx) U.1 U.2.1 U.2.2 (fe ..) (gW ..)).mono (Ren.oD ..);exact h4.put ⟨_,_,_,_,_,_,rfl⟩ ⟨_,_,_,_,_,_,hc⟩
theorem MN:Extern.next "fmt's door" = none:=by rfl
theorem Mh(v:Value)(w:World):∃o w',step P (bF ((door P).finish v) [] w)=.ended o w':=by
 have:b5 P true {frame:=(door P).finish v,callers:=[],status:=.running,dying:=none} w=.ended (.stuck ("no extern row " ++ "fmt's door") (Frame.pos P ((door P).finish v))) w:=by
  have e:=MN;simp only[door,gB,b5,fB,e,Option.elim]
 exact⟨_,_,bG rfl⟩
theorem Gt(c:List PanicEntry)(w:World):∃o w',step P (bF ((door P).raise c) [] w)=.ended o w':=by
 have O:gA P ((door P).raise c)=true:=by
  simp[door,Frame.raise,gA]
 have:∃o,b5 P true {frame:=(door P).raise c,callers:=[],status:=.running,dying:=none} w=.ended o w:=by
  have hm:((door P).raise c).mode=.panicking c:=rfl;have U:((door P).raise c).defers=[]:=rfl
  exact⟨_,by
   unfold b5;unfold bA;simp only[hm,U,O,if_true]
   rfl⟩
 obtain⟨o,this⟩:=this;exact⟨_,_,bG (by rw[this];rfl)⟩
theorem Cg(hS:dR P m T (S.fr::S.cs) (fr'::cs'))(hf:Fin P S)(n:Nat){O:LS}(hc:O.cs≠[]):bE P (n+1) S.m≠.next O.m:=by
 obtain⟨fr,cs,w⟩:=S;obtain⟨h1,h2,Y,h4⟩:=hf;simp only at h1 h2 Y h4 hc hS;subst h1
 have hk:=by cases hS with|one _ h _ _=>exact h
                                    |cons _ _ _ h=>cases h
 intro e
 have fin:(∃v w2,step P (bF fr [door P] w)=.next (bF ((door P).finish v) [] w2))\/(∃v w2,step P (bF fr [door P] w)=.next (bF ((door P).raise v) [] w2))\/∃o w2,step P (bF fr [door P] w)=.ended o w2:=by
  cases hm:fr.mode with
  |run=>exact absurd hm h2|panicking ch=>
   by_cases aa:fr.catches P=true;refine .inr (.inr ?_)
   have:∃o,b5 P true {frame:=fr,callers:=[door P],status:=.running,dying:=none} w=.ended o w:=by
    exact⟨_,by
     unfold b5;unfold bA;simp only[hm,Y,aa,if_true]
     rfl⟩
   obtain⟨o,this⟩:=this;exact⟨_,_,bG (by rw[this];rfl)⟩;refine .inr (.inl ⟨ch,w,bK ?_⟩);unfold b5;unfold bA;simp[hm,Y,aa]
  |returning=>
   cases hp:P.funcs[fr.fn]? with
   |none=>
    refine .inl ⟨fr.tmps.getD 0 hU,w,bK ?_⟩;simp[b5,bA,bJ,hm,Y,hk,hp]
   |some fn=>
    cases hr:(bM fn fr.tmps).run P w with
    |ok v w2=>
     refine .inl ⟨v,w2,bK ?_⟩;simp[b5,bA,bJ,hm,Y,hk,hp,hr]
    |halt x w2=>
     refine .inr (.inr ?_)
     have:∃o,(b5 P true {frame:=fr,callers:=[door P],status:=.running,dying:=none} w).bare=.ended o w2:=by
      cases x<;>exact⟨_,by simp[b5,bA,bJ,hm,Y,hk,hp,hr];rfl⟩
     obtain⟨o,this⟩:=this;exact⟨_,_,bG this⟩
 have two:∀(f:Frame)(w2:World),(∃o w',step P (bF f [] w2)=.ended o w')->step P (bF fr [door P] w)=.next (bF f [] w2)->False:=by
  rintro f w2 ⟨o,w3,hh⟩ W;have U:bE P _ (bF fr _ w)=.next _:=e;simp only[bE,W]at U
  cases n with
  |zero=>
   simp only[bE,gd]at U;exact hc (ER U).2.1.symm
  |succ n=>
   simp only[bE,hh]at U;cases U
 rcases fin with⟨v,w2,W⟩|⟨v,w2,W⟩|⟨o,w2,W⟩
 exact two _ _ (Mh v w2) W;exact two _ _ (Gt v w2) W;have U:bE P _ (bF fr _ w)=.next _:=e;simp only[bE,W]at U;cases U
end
def lF(P:Program)(Stop:LS->Prop)(S:LS):Prop:=∀τ,A8 τ S.w->∃n O,bE P n (S.on τ).m=.next (LS.m O)/\Stop O/\O.cs≠[]
def yJ(Stop:LS->Prop):Prop:=∀S τ,Stop (S.on τ)->Stop S
def nB(P:Program)(Stop:LS->Prop)(S' S:LS):Prop:=¬Stop S/\∃τ,A8 τ S.w/\G1 P (S.on τ) S'
def uY(P:Program)(S:LS):Prop:=∃gl st m T fr' cs' w',wF P gl st m T S fr' cs' w'
theorem WR.tp{m:Ren}{w:World}(h:WR m w w')(τ:Nat->Question->Nat):WR m (tp w τ) w':=⟨h.obj,h.fz,h.all,h.Nc,h.Na,h.JQ,h.os,h.kI,h.lk,h.dead,h.rY⟩
section
variable {P:Program} {m:Ren} {T:List Frame} {gl:Nat->Prop} {st:Bool} {Stop:LS->Prop}
theorem wF.on{S:LS}{fr':Frame}{cs':List Frame}(h:wF P gl st m T S fr' cs' w')(τ:Nat->Question->Nat):wF P gl st m T (S.on τ) fr' cs' w':=⟨h.pA,h.il,h.op,h.stack,h.world.tp τ⟩
theorem GZ(w:World):A8 w.tape w:=λ_ _=>rfl
theorem Ug(S:LS)(τ O:Nat->Question->Nat):(S.on τ).on O=S.on O:=rfl
theorem lF.step(hB:yJ Stop){S:LS}(O:uY P S)(hH:lF P Stop S)(hn:¬Stop S)(τ:Nat->Question->Nat)(W:A8 τ S.w):¬Fin P S/\∃S',G1 P (S.on τ) S':=by
 obtain⟨gl,st,m,T,fr',cs',w',O⟩:=O;obtain⟨n,Y,U,h2,h3⟩:=hH τ W
 cases n with
 |zero=>
  simp only[bE,gd]at U;obtain rfl:=LS.JP U;exact absurd (hB _ _ h2) hn
 |succ n=>
  refine⟨λhf=>Cg (m:=m) (T:=T) (S:=S.on τ) (O.on τ).stack ⟨hf.1,hf.2⟩ n h3 U,?_⟩;obtain⟨S',g,_⟩:=Bl (O.on τ).pA O.il O.op (O.on τ).stack (O.on τ).world U;exact⟨S',g⟩
theorem uY.own{S:LS}(O:uY P S)(U:¬Fin P S)(h:G1 P S S'):uY P S':=by
 obtain⟨gl,st,m,T,fr',cs',w',O⟩:=O;obtain⟨dx,f,c,w,h⟩:=O.own U h;exact⟨gl,st,dx,T,f,c,w,h⟩
theorem uY.on{S:LS}(O:uY P S)(τ:Nat->Question->Nat):uY P (S.on τ):=by
 obtain⟨gl,st,m,T,fr',cs',w',O⟩:=O;exact⟨gl,st,m,T,fr',cs',w',O.on τ⟩
theorem Ae{S:LS}(O:uY P S)(h:G1 P S S'):S.w.drawn<=S'.w.drawn/\S'.w.tape=S.w.tape/\∀τ,uD τ S.w S'.w->G1 P (S.on τ) (S'.on τ):=by
 obtain⟨gl,st,m,T,fr',cs',w',O⟩:=O;exact h.loc O
theorem lF.own(hB:yJ Stop){S:LS}(hs:uY P S)(hH:lF P Stop S)(h:nB P Stop S' S):uY P S'/\lF P Stop S':=by
 obtain⟨hn,τ,W,ho⟩:=h;have hf:=(hH.step hB hs hn τ W).1;refine⟨(hs.on τ).own (λx=>hf ⟨x.1,x.2⟩) ho,λU O=>?_⟩;obtain⟨h1,h2,h3⟩:=Ae (hs.on τ) ho;have h1:S.w.drawn<=S'.w.drawn:=h1;have h2:S'.w.tape=τ:=h2
 have Y:=h3 U λi _ b=>by
  rw[O i b,h2];rfl
 rw[Ug]at Y
 have hb:A8 U _:=λi hi=>by
  rw[O i (cY hi h1),h2];exact W i hi
 obtain⟨n,aa,g1,g2,g3⟩:=hH U hb
 cases n with
 |zero=>
  simp only[bE,gd]at g1;obtain rfl:=LS.JP g1;exact absurd (hB _ _ g2) hn
 |succ n=>
  simp only[bE,Y.next]at g1;exact⟨n,aa,g1,g2,g3⟩
theorem QU{O:Type}{r:O->O->Prop}{x:O}(h:¬Acc r x):∃y,r y x/\¬Acc r y:=by
 by_cases U:∃y,r y x/\¬Acc r y;exact U;exact absurd (Acc.intro x λy W=>dt λY=>U ⟨y,W,Y⟩) h
open Classical in
theorem lF.acc(hB:yJ Stop){S:LS}(hs:uY P S)(hH:lF P Stop S):Acc (nB P Stop) S:=by
 apply dt;intro aa;let X:={S:LS // uY P S/\lF P Stop S/\¬Acc (nB P Stop) S}
 have nx:∀x:X,∃y:X,nB P Stop y.1 x.1:=by
  rintro⟨x,h1,W,h3⟩;obtain⟨y,hr,hy⟩:=QU h3;have:=W.own hB h1 hr;exact⟨⟨y,this.1,this.2,hy⟩,hr⟩
 let f:=λx=>ee (nx x);have hf:=λx=>ef (nx x);let s:Nat->X:=λn=>Nat.rec ⟨S,hs,hH,aa⟩ (λ_ x=>f x) n;have O:∀n,nB P Stop (s (n+1)).1 _:=λn=>hf _
 have one:∀n,(s n).1.w.drawn<=(s (n+1)).1.w.drawn/\(∀i,i<(s n).1.w.drawn->(s (n+1)).1.w.tape i=(s n).1.w.tape i):=by
  intro n;obtain⟨_,τ,U,ho⟩:=O n;obtain⟨h1,W,_⟩:=Ae ((s n).2.1.on τ) ho;exact⟨h1,λi hi=>by rw[W];exact U i hi⟩
 have mono:∀k n,(s n).1.w.drawn<=(s (n+k)).1.w.drawn/\(∀i,i<(s n).1.w.drawn->(s (n+k)).1.w.tape i=(s n).1.w.tape i):=by
  intro k;induction k with
  |zero=>exact λn=>⟨cZ _,λ_ _=>rfl⟩
  |succ k ih=>
   intro n;have a:=ih n;have b:=one (n+k);refine⟨da a.1 b.1,λi hi=>?_⟩;have:=b.2 i (cY hi a.1);exact this.trans (a.2 i hi)
 let τ:=λi=>if h:∃n,i<(s n).1.w.drawn then(s (ee h)).1.w.tape i else λ_=>0
 have U:∀n i,i<(s n).1.w.drawn->τ i=(s n).1.w.tape i:=by
  intro n i hi;have hx:∃n,i<(s n).1.w.drawn:=⟨n,hi⟩;have e:τ i=(s _).1.w.tape i:=dif_pos hx;have hk:=ef hx;rw[e];generalize ee hx=k at hk;rcases Nat.le_total k n with h|h
  obtain⟨d,rfl⟩:=dc h;exact((mono d k).2 i hk).symm;obtain⟨d,rfl⟩:=dc h;exact(mono d n).2 i hi
 have go:∀n,G1 P ((s n).1.on τ) ((s (n+1)).1.on τ):=by
  intro n;obtain⟨_,Y,hb,ho⟩:=O n;obtain⟨h1,W,h3⟩:=Ae ((s n).2.1.on Y) ho;have W:(s (n+1)).1.w.tape=Y:=W
  exact h3 τ λi _ hi=>by
   rw[U (n+1) i hi,W];rfl
 have run:∀n k,bE P n ((s k).1.on τ).m=.next ((s (k+n)).1.on τ).m:=by
  intro n;induction n with
  |zero=>exact λk=>rfl|succ n ih=>
   intro k;simp only[bE,(go k).next];rw[ih (k+1),Nat.add_right_comm];rfl
 obtain⟨n,ab,g1,g2,_⟩:=hH τ λi hi=>U 0 i hi;have:=run n 0;rw[Nat.zero_add]at this;have e:=this.symm.trans g1;simp only[gd]at e;obtain rfl:=LS.JP e;exact(O n).1 (hB _ _ g2)
end
end
section
open Go.Conc
variable {fr':Frame} {S:LS} {cs':List Frame} {w' nU:World}
section
variable {P:Program} {m:Ren} {T:List Frame} {gl:Nat->Prop} {st:Bool} {Stop:LS->Prop}
theorem WR.rely{w:World}(h:WR m w w')(W:∀r r',m.blk r=some r'->nU.heap[r']?=w'.heap[r']?)(hs:w'.heap.size<=nU.heap.size)(ho:nU.os=w'.os):WR m w nU:=by
 refine⟨λr r' hb=>?_,λr r' c e f Y e' f' hb O U hn=>?_,λr r' c e f Y e' f' hb O U hl=>?_,λr r' hb=>?_,h.Na,da h.JQ hs,ho.trans h.os,h.kI,h.lk,h.dead,λr i v hv=>?_⟩;obtain⟨o,o',O,U,h3⟩:=h.obj r r' hb;exact⟨o,o',O,by rw[W r r' hb];exact U,h3⟩;exact h.fz r r' _ _ _ _ _ _ hb O (by rw[<-W r r' hb];exact U) hn;exact h.all r r' _ _ _ _ _ _ hb O (by rw[<-W r r' hb];exact U) hl;have:=h.Nc r r' hb;exact⟨this.1,cY this.2 hs⟩;obtain⟨r',hb,hp⟩:=h.rY r i v hv;exact⟨r',hb,λc e f Y e' f' x g1 g2=>hp c e f Y e' f' x g1 (by rw[<-W r r' hb];exact g2)⟩
theorem wF.rely(h:wF P gl st m T S fr' cs' w')(O:∀r r',m.blk r=some r'->nU.heap[r']?=w'.heap[r']?)(U:w'.heap.size<=nU.heap.size)(W:nU.os=w'.os):wF P gl st m T S fr' cs' nU:=⟨h.pA,h.il,h.op,h.stack,h.world.rely O U W⟩
structure pH(P:Program)(gl:Nat->Prop)(st:Bool)(m:Ren)(T:List Frame)(S:LS)(r r':Nat)(v v':Value)(fr':Frame)(cs':List Frame)(w':World):Prop where
 pA:l6 P m gl st
 il:¬m.il
 op:Open m
 ch:m.ch r=some r'
 val:VR m v v'
 rS:∃f0 wl cap buf gI rcvd tm,S=⟨f0.finish hU,S.cs,{wl with heap:=wl.heap.setIfInBounds r (.chan cap (buf.push v) false (gI+1) rcvd tm)}⟩/\dR P m T (f0::S.cs) (fr'::cs')/\WR m wl w'/\wl.heap[r]?=some (.chan cap buf false gI rcvd tm)/\buf.size<cap
theorem pH.rely{r r':Nat}{v U:Value}(h:pH P gl st m T S r r' v U fr' cs' w')(W:∀r r',m.blk r=some r'->nU.heap[r']?=w'.heap[r']?)(Y:w'.heap.size<=nU.heap.size)(ho:nU.os=w'.os):pH P gl st m T S r r' v U fr' cs' nU:=by
 obtain⟨f0,wl,cap,buf,gI,O,tm,h1,h2,h3,h4⟩:=h.rS;exact⟨h.pA,h.il,h.op,h.ch,h.val,f0,wl,cap,buf,gI,O,tm,h1,h2,h3.rely W Y ho,h4⟩
theorem pH.done{r r':Nat}{v v':Value}(h:pH P gl st m T S r r' v v' fr' cs' w'):∃o,wF P gl st (m.put r o) T S (fr'.finish hU) cs' w':=by
 obtain⟨f0,wl,cap,buf,gI,U,tm,Y,h2,h3,h4,_⟩:=h.rS;have O:=h2.qc.finish (VR.undef m);refine⟨.chan cap (buf.push v) false (gI+1) U tm,h.pA.mono (Ren.oD ..),h.il,λs s' W=>?_,?_,?_⟩;by_cases e:s=r;exact⟨cap,buf.push v,gI+1,U,tm,by simp[Ren.put,e]⟩;obtain⟨a,b,c,d,e',hx⟩:=h.op s s' W;exact⟨a,b,c,d,e',by simp only[Ren.put,e,if_false];exact hx⟩;rw[Y];exact(h2.set (.refl m) O.1 O.2.1 O.2.2 (fe ..) (gW ..)).mono (Ren.oD ..);rw[Y];exact h3.put ⟨_,_,_,_,_,_,rfl⟩ ⟨_,_,_,_,_,_,h4⟩
inductive Does(P:Program)(gl:Nat->Prop)(st:Bool)(Stop:LS->Prop)(m:Ren)(T:List Frame)(S:LS)(w':World):GStep->Prop
 |go {S' dx fg fh w₁ es}:nB P Stop S' S->m.Le dx->wF P gl st dx T S' fg fh w₁->fA m dx w' w₁->(∀e∈es,oG dx e)->Does P gl st Stop m T S w' (.go (G fg fh) w₁ es)|send {S' dx fg fh w₁ es r r' v v' z'}:nB P Stop S' S->m.Le dx->pH P gl st dx T S' r r' v v' fg fh w₁->fA m dx w' w₁->(∀e∈es,oG dx e)->Does P gl st Stop m T S w' (.comm (G fg fh) #[⟨.chan (some r'),some v',z'⟩] true .send w₁ es)
def along(w w':World):Nat->Question->Nat:=λi=>if i<w.drawn then w.tape i else w'.tape (w'.drawn+(i-w.drawn))
theorem FP(w w':World):A8 (along w w') w:=λi hi=>by simp[along,hi]
theorem oI(w w':World):Al (tp w (along w w')) w':=λi q=>by
 show w'.tape _ q=along w w' (w.drawn+i) q;have:¬w.drawn+i<w.drawn:=by omega
 simp[along,this]
theorem wF.Ue(hB:yJ Stop)(U:wF P gl st m T S fr' cs' w')(hH:lF P Stop S)(hn:¬Stop S)(main':Bool):Does P gl st Stop m T S w' (b5 P main' (G fr' cs') w'):=by
 have hb:=FP S.w w';have ae:=oI S.w w';obtain⟨hf,S',ho⟩:=hH.step hB ⟨_,_,_,_,_,_,_,U⟩ hn _ hb;have hg:nB P Stop S' S:=⟨hn,_,hb,ho⟩;have O:=U.on (along S.w w');have Y:=kE O.il O.stack;generalize ab:S.on _=S0 at ho O Y;have W:Al S0.w w':=by rw[<-ab];exact ae
 have af:¬Fin P S0:=by rw[<-ab];exact λx=>hf ⟨x.1,x.2⟩
 cases ho with
 |go h=>
  obtain⟨dx,f,c,nU,es,e,h1,h2,h3,h4,h5⟩:=yT (main':=main') O.pA O.stack Y (λa b c d=>af ⟨a,b,c,d⟩) O.world W h;rw[e];exact .go hg h1 ⟨U.pA.mono h1,by rw[h1.il];exact U.il,λr r' hr=>by rw[h4.mz U.il]at hr;rw[h4.kI];exact U.op r r' hr,h2,h3⟩ h4 h5
 |@send _ _ _ f0 c0 r v z w₁ es cap buf gI ac tm h hc ag=>
  obtain⟨f1,c1,dx,al,am,k',nU,an,e0,e,_,h1,h2,h3,h4,h5,h6⟩:=uo (main':=main') O.pA O.stack Y O.world W h;obtain⟨rfl,rfl⟩:f0=f1/\c0=c1:=⟨congrArg gt e0,congrArg gn e0⟩;obtain⟨kl⟩:=k'
  cases h3 with
  |@cons _ q _ _ hx aa=>
   cases aa;obtain⟨ao,ap,aq⟩:=q;have ah:=hx.chan;have ai:=hx.send
   cases ah with
   |@chan _ r' aj=>
   cases ai with
   |@some _ v' hv=>
   rw[e];have ak:Open dx:=λs s' ad=>by rw[h5.mz U.il]at ad;rw[h5.kI];exact U.op s s' ad
   exact .send hg h1 ⟨U.pA.mono h1,by rw[h1.il];exact U.il,ak,aj,hv,f0,w₁,cap,buf,gI,ac,tm,rfl,h2,h4,hc,ag⟩ h5 h6
end
variable {es:Array Event} {fn:b8} {m':Ren} {pos:String}
def kM:Go.Loc->Option Nat
 |.cell a=>some a.block|.obj r=>some r|_=>none
def ni(t:b9)(g:Nat)(m:Ren):Prop:=∀p a b r,ca t p=some a->kM a.loc=some b->m.blk r=some b->(m.loose r->a.write=true)->cq t g p
def Nw(t:b9)(B:Nat):Prop:=∀p a b,ca t p=some a->kM a.loc=some b->b<B
def nS(m m':Ren):Prop:=∀r r' b,m.blk r=some b->m'.blk r'=some b->m.loose r/\m'.loose r'
theorem nS.symm{m:Ren}(h:nS m m'):nS m' m:=λr r' b x y=>⟨(h r' r b y x).2,(h r' r b y x).1⟩
section
variable {t u:b9} {g:Nat} {m dx:Ren} {B:Nat}
theorem mq{e:Event}(h:oG m e){x:Touch}(O:(ga e).touch?=some x)(hm:x.loc.isMemory=true):∃b r,kM x.loc=some b/\m.blk r=some b/\(m.loose r->x.write=false):=by
 obtain⟨loc,wr,Y⟩:=e
 cases loc with
 |cell a=>
  obtain⟨W,a0,ha,hw⟩:=h;simp only[ga,gc,dg]at O;subst O;refine⟨a.block,a0.block,rfl,ha.blk,λU=>?_⟩
  cases wr with
  |false=>rfl|true=>exact absurd U (hw rfl)
 |obj r=>
  obtain⟨W,r0,hb,U⟩:=h;subst W;cases wr <;>(simp only[ga,gc,dg]at O;subst O;exact⟨r,r0,rfl,hb,λx=>absurd x U⟩)
 |mark k=>
  have hk:=h;cases k<;>first|exact hk.elim|(simp[ga,gc]at O)
 |output=>
  cases wr<;>cases Y <;>(simp only[ga,gc,dg]at O;subst O;simp[Go.Loc.isMemory]at hm)
 |goroutines=>exact h.elim
theorem ni.grow(h:ni t g m)(U:m.Le dx)(W:Nw t B)(Y:∀r b,dx.blk r=some b->m.blk r=some b\/B<=b):ni t g dx:=by
 intro p a b r O hb hr hw;rcases Y r b hr with x|x
 exact h p a b r O hb x λy=>hw ((U.loose r b x).2 y);have:=W p a b O hb;omega
theorem dZ{p:Nat}{a:Touch}(h:ca (t++u) p=some a):(p<t.size/\ca t p=some a)\/∃op,op∈u/\(t++u)[p]?=some op/\op.act.touch?=some a:=by
 obtain⟨op,O,W⟩:=touch_of h;rcases getElem?_append_cases O with⟨Y,U⟩|⟨_,U⟩
 exact .inl ⟨Y,by rw[touchAt_of U];exact W⟩;exact .inr ⟨op,U,O,W⟩
theorem ni.own(h:ni t g m):ni (t++de g fn pos es) g m:=by
 intro p a b r U hb W Y;rcases dZ U with⟨_,O⟩|⟨op,O,h2,_⟩
 exact(h p a b r O hb W Y).app _;have:=cu h2;obtain⟨e,_,rfl⟩:=bU O;exact this
theorem ni.other(h:ni t g m)(hd:nS m m'){j:Nat}(he:∀e∈es,oG m' e):ni (t++de j fn pos es) g m:=by
 intro p a b r ha hb W Y;rcases dZ ha with⟨_,O⟩|⟨op,O,_,h3⟩
 exact(h p a b r O hb W Y).app _;obtain⟨e,U,rfl⟩:=bU O
 have hm:a.loc.isMemory=true:=by
  cases hl:a.loc<;>rw[hl]at hb<;>simp[kM]at hb<;>rfl
 obtain⟨b',r',g1,g2,g3⟩:=mq (he e U) h3 hm;rw[hb]at g1;cases g1;obtain⟨l1,l2⟩:=hd r r' b W g2;rw[Y l1]at g3;exact absurd (g3 l2) (by simp)
theorem ni.clean(h:ni t g m)(hc:∀said,¬bT said t)(he:∀e∈es,oG m e):∀said,¬bT said (t++de g fn pos es):=by
 intro said;refine ck (hc said) (λop O=>by obtain⟨e,_,rfl⟩:=bU O;rfl) λi a ha op O b hb U=>?_;obtain⟨e,W,rfl⟩:=bU O;obtain⟨Y,h2,h3,_⟩:=U;obtain⟨b',r,g1,g2,g3⟩:=mq (he e W) hb (Y▸h2);refine h i a b' r ha (by rw[Y];exact g1) g2 λhl=>?_;rcases h3 with x|x
 exact x;rw[g3 hl]at x;cases x
theorem Nw.own(h:Nw t B){w:World}{wl:World}(W:WR m wl w)(Y:B<=w.heap.size)(he:∀e∈es,oG m e):Nw (t++de g fn pos es) w.heap.size:=by
 intro p a b ha hb;rcases dZ ha with⟨_,O⟩|⟨op,O,_,h3⟩
 exact cY (h p a b O hb) Y;obtain⟨e,U,rfl⟩:=bU O
 have hm:a.loc.isMemory=true:=by
  cases hl:a.loc<;>rw[hl]at hb<;>simp[kM]at hb<;>rfl
 obtain⟨b',r',g1,g2,g3⟩:=mq (he e U) h3 hm;rw[hb]at g1;cases g1;exact(W.lt g2).2
end
def GX{O:Type}(r:O->O->Prop)(n:Nat)(U q:Nat->O):Prop:=∃i,i<n/\r (U i) (q i)/\∀j,j≠i->U j=q j
theorem Oz{α:Type}{r:α->α->Prop}:∀(n:Nat)(q:Nat->α),(∀i,i<n->Acc r (q i))->Acc (GX r n) q:=by
 intro n;induction n with
 |zero=>exact λq _=>.intro q λq' ⟨i,hi,_⟩=>absurd hi (Nat.not_lt_zero i)|succ n ih=>
  have key:∀x,Acc r x->∀q,q n=x->(∀i,i<n->Acc r (q i))->Acc (GX r (n+1)) q:=by
   intro x hx;induction hx with
   |intro x _ aa=>
    intro q W fy;have U:=ih q fy;revert W fy;induction U with
    |intro q _ ab=>
     intro W fy;refine .intro q λq' ⟨i,hi,hr,Y⟩=>?_;by_cases e:i=n;subst e;exact aa _ (W▸hr) q' rfl λj O=>by rw[Y j (Nat.ne_of_lt O)];exact fy j O
     have U:i<n:=by omega
     refine ab q' ⟨i,U,hr,Y⟩ (by rw[Y n (g8 e)];exact W) λj O=>?_;by_cases ej:j=i;subst ej;exact(fy j O).inv hr;rw[Y j ej];exact fy j O
  exact λq h=>key _ (h n (Nat.lt_succ_self n)) q rfl λi hi=>h i (Nat.lt_succ_of_lt hi)
section
variable {m dx m':Ren} {w w₁ wl wl':World} {B:Nat}
theorem nS.grow(h:nS m m')(U:m.Le dx)(W:fA m dx w w₁)(Y:WR m' wl' w):nS dx m':=by
 intro r r' b h1 O;rcases W.news r b h1 with x|x
 obtain⟨a,b⟩:=h r r' _ x O;exact⟨(U.loose r _ x).2 a,b⟩;have:=(Y.lt O).2;omega
theorem fA.leaves(U:fA m dx w w₁)(Y:nS m m')(hw:WR m' wl' w):∀r r',m'.blk r=some r'->w₁.heap[r']?=w.heap[r']?:=by
 intro r r' hb;by_cases W:∃s,m.blk s=some r';obtain⟨s,O⟩:=W;exact U.still s r' O (Y s r r' O hb).1;exact U.old r' (hw.lt hb).2 λs O=>W ⟨s,O⟩
theorem k9(W:WR m wl w){c:Nat}{o:Obj}(O:∃a b x s y t,w.heap[c]?=some (.chan a b x s y t)):∀r r',m.blk r=some r'->(w.heap.setIfInBounds c o)[r']?=w.heap[r']?:=by
 intro r r' hb;refine bl ?_;rintro rfl;obtain⟨x,x',_,U,Y⟩:=W.obj r _ hb;obtain⟨a,b,y,s,z,t,O⟩:=O;rw[O]at U;cases U;cases Y
theorem fA.chan(W:fA m dx w w₁)(Y:WR m wl w){c:Nat}{a:Nat}{b:Array Value}{x:Bool}{s y:Nat}{t:Bool}(O:w.heap[c]?=some (.chan a b x s y t)):w₁.heap[c]?=some (.chan a b x s y t):=by
 rw[W.old c (jE O) λr hr=>?_];exact O;obtain⟨o,o',_,U,h3⟩:=Y.obj r _ hr;rw[O]at U;cases U;cases h3
end
variable {r:Nat}
section
variable {P:Program} {m:Ren} {T:List Frame} {gl:Nat->Prop} {st:Bool} {Stop:LS->Prop}
def Holds(S:LS)(r:Nat)(l:List Value):Prop:=∃cap buf gI O tm,S.w.heap[r]?=some (.chan cap buf false gI O tm)/\buf.toList=l
theorem Holds.one{S:LS}{l O:List Value}(h:Holds S r l)(W:Holds S r O):l=O:=by
 obtain⟨_,_,_,_,_,Y,rfl⟩:=h;obtain⟨_,_,_,_,_,U,rfl⟩:=W;rw[Y]at U;cases U;rfl
theorem wF.Ud{S S':LS}(O:wF P gl st m T S fr' cs' w')(hf:¬Fin P S)(h:G1 P S S'):∃dx ae af w₁,wF P gl st dx T S' ae af w₁/\dx.ch=m.ch/\∀r r' l,m.ch r=some r'->Holds S r l->Holds S' r l\/∃v,Holds S' r (l++[v]):=by
 obtain⟨am,ag,ah,_⟩:=align O.world;have hn:=kE O.il O.stack
 cases h with
 |go h=>
  obtain⟨dx,f,c,nU,es,_,h1,h2,h3,h4,_⟩:=yT (main':=true) O.pA O.stack hn (λa b c d=>hf ⟨a,b,c,d⟩) ag ah h;refine⟨dx,f,c,nU,⟨O.pA.mono h1,by rw[h1.il];exact O.il,λr r' hr=>by rw[h4.mz O.il]at hr;rw[h4.kI];exact O.op r r' hr,h2,h3⟩,h4.mz O.il,λr r' l hr hl=>.inl ?_⟩;obtain⟨cap,buf,gI,U,tm,hx⟩:=O.op r r' hr;have a:=(O.world.kI r _ hx).1;have b:=(h3.kI r _ (by rw[h4.kI];exact hx)).1;have:=hl.one ⟨cap,buf,gI,U,tm,a,rfl⟩;exact⟨cap,buf,gI,U,tm,b,this.symm⟩
 |@send _ _ _ f0 c0 r0 v z w₁ es cap buf gI U tm h hc hb=>
  obtain⟨f1,c1,dx,aj,ak,k',nU,an,e0,_,_,h1,h2,h3,h4,h5,_⟩:=uo (main':=true) O.pA O.stack hn ag ah h;obtain⟨rfl,rfl⟩:f0=f1/\c0=c1:=⟨congrArg gt e0,congrArg gn e0⟩;have W:=(h2.qc).finish (VR.undef dx)
  have al:Open (dx.put r0 (.chan cap (buf.push v) false (gI+1) U tm)):=by
   intro s s' ab;by_cases e:s=r0;exact⟨cap,buf.push v,gI+1,U,tm,by simp[Ren.put,e]⟩;have ab:dx.ch s=some s':=ab;rw[h5.mz O.il]at ab;obtain⟨a,b,c,d,e',hx⟩:=O.op s s' ab;exact⟨a,b,c,d,e',by simp only[Ren.put,e,if_false];rw[h5.kI];exact hx⟩
  refine⟨dx.put r0 _,aj.finish hU,ak,nU,⟨(O.pA.mono h1).mono (Ren.oD ..),?_,al,?_,h4.put ⟨_,_,_,_,_,_,rfl⟩ ⟨_,_,_,_,_,_,hc⟩⟩,h5.mz O.il,λr r' l hr hl=>?_⟩;show ¬dx.il;rw[h1.il];exact O.il;exact(h2.set (.refl dx) W.1 W.2.1 W.2.2 (fe ..) (gW ..)).mono (Ren.oD ..);obtain⟨ac,ad,Y,aa,ai,hx⟩:=O.op r r' hr;have a:=(O.world.kI r _ hx).1;have b:=(h4.kI r _ (by rw[h5.kI];exact hx)).1;have el:=hl.one ⟨ac,ad,Y,aa,ai,a,rfl⟩;by_cases e:r=r0;subst e;rw[hc]at b;cases b;refine .inr ⟨v,cap,buf.push v,gI+1,U,tm,?_,by rw[el];simp⟩;simp[jE hc];refine .inl ⟨ac,ad,Y,aa,ai,?_,el.symm⟩;rw[bl (g8 e)];exact b
theorem yV{r':Nat}{L:List Value}:∀(n:Nat){m:Ren}{S:LS}{fr':Frame}{cs':List Frame}{w':World},wF P gl st m T S fr' cs' w'->m.ch r=some r'->∀{O:LS},bE P n S.m=.next O.m->O.cs≠[]->Holds O r L->∀{l},Holds S r l->l <+: L
 |0,m,S,fr',cs',w',U,W,O,h,Y,hL,l,hl=>by
  simp only[bE,gd]at h
  obtain rfl:=LS.JP h
  rw[hl.one hL];exact List.prefix_refl _
 |n+1,m,S,fr',cs',w',U,W,O,h,Y,hL,l,hl=>by
  have hf:=λx=>Cg U.stack x n Y h;obtain⟨S',ho,h2⟩:=Bl U.pA U.il U.op U.stack U.world h;obtain⟨dx,f,c,w,aa,ab,hh⟩:=U.Ud hf ho;have ih:=fun {l}=>yV (L:=L) n aa (by rw[ab];exact W) h2 Y hL (l:=l);rcases hh r r' l W hl with x|⟨v,x⟩
  exact ih x;exact(List.prefix_append l _).trans (ih x)
theorem lF.prefix{S:LS}(U:wF P gl st m T S fr' cs' w')(W:lF P Stop S){r':Nat}(Y:m.ch r=some r'){L:List Value}(hL:∀O,Stop O->Holds O r L){l:List Value}(hl:Holds S r l):l <+: L:=by
 obtain⟨n,O,h1,h2,h3⟩:=W _ (GZ _);exact yV n U Y (S:=S) h1 h3 (hL _ h2) hl
theorem pH.next{S:LS}{r':Nat}{v Y:Value}(h:pH P gl st m T S r r' v Y fr' cs' w')(hH:lF P Stop S){L:List Value}(hL:∀O,Stop O->Holds O r L):∃l,Holds S r (l++[v])/\(l++[v]) <+: L:=by
 obtain⟨o,hs⟩:=h.done;obtain⟨f0,wl,cap,buf,gI,U,tm,h1,h2,h3,h4,_⟩:=h.rS
 have W:Holds S r (buf.toList++[v]):=by
  rw[h1];refine⟨cap,buf.push v,gI+1,U,tm,?_,by simp⟩;simp[jE h4]
 exact⟨_,W,hH.prefix hs (r':=r') h.ch hL W⟩
end
variable {buf:Array Value} {tm:Bool} {fr ps:Frame} {c cap s:Nat} {w:World}
def Lv(P:Program):Nat->Goroutine->Prop
 |0,g=>g.status=.finished|n+1,g=>g.status=.finished\/(g.status=.running/\∃g',(∀w,b5 P false g w=.go g' w #[])/\Lv P n g')
theorem Lv.status{P:Program}{n:Nat}{g:Goroutine}(h:Lv P n g):g.status=.running\/g.status=.finished:=by
 cases n with
 |zero=>exact .inr h|succ n=>exact h.elim .inr λx=>.inl x.1
theorem Lv.Fo{P:Program}:∀{n:Nat}{g:Goroutine},Lv P n g->QuitsD P n 0 g
 |0,_,h=>⟨h,rfl⟩
 |_+1,_,.inl h=>.inl ⟨h,rfl⟩|_+1,_,.inr ⟨h,g',O,U⟩=>.inr ⟨h,g',#[],by simp,O,U.Fo⟩
section
variable {P:Program}
theorem Hp(a:Array bH)(t:bH)(cs:Array Bool)(O:w.heap[c]?=some (.chan cap buf false s r tm)) :
  (invoke (.builtin .close a t cs) #[.chan (some c)]).runT P w #[]=(.ok (.value (.tuple #[])) {w with heap:=w.heap.setIfInBounds c (.chan cap buf true s r tm)},#[⟨.obj c,false,true⟩,⟨.obj c,true,true⟩]):=by
 obtain⟨k,e,U⟩:∃k,invoke (.builtin .close a t cs) #[.chan (some c)]=Sem.getObj c k/\k (.chan cap buf false s r tm)=Sem.setObj c .. := ⟨_,rfl,rfl⟩;rw[e]
 have W:(Sem.getObj c k).runT P w #[]=(k (.chan cap buf false s r tm)).runT P w (#[].push ⟨.obj c,false,true⟩):=by
  rw[hQ];simp only[O];rfl
 rw[W,U];rw[hQ];simp only[O];rfl
theorem closing{a:Array bH}{t:bH}{cs:Array Bool}(hm:fr.mode=.returning)(U:fr.defers=[⟨.builtin .close a t cs,#[.chan (some c)]⟩])(W:(P.funcs[fr.fn]?).any (·.norace)=false)(Y:w.heap[c]?=some (.chan cap buf false s r tm)) :
  b5 P false (G fr [ps]) w=.go (G {fr with defers:=[]} [ps]) {w with heap:=w.heap.setIfInBounds c (.chan cap buf true s r tm)} #[⟨.obj c,false,true⟩,⟨.obj c,true,true⟩]:=by
 have e:b5 P false (G fr [ps]) w=bA P false fr [ps] none w:=by unfold b5;simp only[G,hm]
 rw[e];obtain⟨fn,tmps,todo,defers,mode,O,round⟩:=fr;subst hm U;unfold bA;dsimp only;unfold callDeferred;rw[Hp a t cs Y];simp[bN,W,ge,G]
theorem Dl{fn:Func}(hm:fr.mode=.returning)(hd:fr.defers=[])(hk:fr.kind=.deferred)(hf:P.funcs[fr.fn]?=some fn)(hr:fn.results=#[])(O:ps.mode=.panicking [bB])(W:ps.defers=[])(aa:P.funcs[ps.fn]?=none)(Y:ps.todo=[]):Lv P 2 (G fr [ps]):=by
 refine .inr ⟨rfl,G ps [],λw=>?_,.inr ⟨rfl,{frame:=ps,callers:=[],status:=.finished,dying:=none},λw=>?_,rfl⟩⟩;have e:b5 P false (G fr [ps]) w=bA P false fr [ps] none w:=by unfold b5;simp only[G,hm]
 rw[e]
 have U:(bM fn fr.tmps).runT P w #[]=(.ok (.tuple #[]) w,#[]):=by
  rw[Sem.runT_eq,results_none hr _ P w,events_results_none hr ..]
 unfold bA;simp only[hd,hm,hf,U];unfold bJ;simp only[hk,O,bB];simp[bN,ge,G];have e:b5 P false (G ps []) w=bA P false ps [] none w:=by unfold b5;simp only[G,O]
 rw[e];unfold bA;simp[W,O,gA,Y,bB]
end
section
variable {P:Program} {m:Ren} {T:List Frame} {gl:Nat->Prop} {st:Bool} {Stop:LS->Prop}
theorem wF.S9{S:LS}{fr':Frame}{cs':List Frame}{w':World}(hs:wF P gl st m T S fr' cs' w'){rd r c:Nat}(h1:S.cs=[door P])(h2:S.fr.mode=.returning)(h3:S.fr.defers=[⟨.collected rd,#[.chan (some r)]⟩])(hd:m.dead rd)(hr:m.ch r=some c) :
  fr'.mode=.returning/\cs'=T/\(∃a t cs,fr'.defers=[⟨.builtin .close a t cs,#[.chan (some c)]⟩])/\CF fr'.kind T/\fr'.fn=S.fr.fn:=by
 have hS:=hs.stack;have hF:=hS.qc;have O:=hF.mode;have U:=hF.defers;rw[h2]at O;rw[h3]at U;rw[h1]at hS;obtain⟨fn,tm,td,df,md,kd,ac⟩:=fr'
 have W:cs'=T/\CF kd T:=by
  cases hS with
  |one _ _ hb _=>exact⟨rfl,hb⟩|cons _ _ _ h=>cases h
 cases O;refine⟨rfl,W.1,?_,W.2,hF.fn⟩
 cases U with
 |@cons _ d' _ l' hx Y=>
  cases Y;obtain⟨ad,ab⟩:=d';have ht:=hx.target;have ha:=hx.args
  have aa:ab=#[.chan (some c)]:=by
   obtain⟨al⟩:=ab
   cases ha with
   |cons hv hn=>
    cases hn
    cases hv with
    |chan hb=>
     rw[hr]at hb;cases hb;rfl
  subst aa
  cases ht with
  |collected hb=>
   rw[(hs.world.dead rd hd).1]at hb;cases hb
  |mark a t cs _=>exact⟨a,t,cs,rfl⟩
end
section
variable {P:Program} {gs:Array Goroutine} {w w₁:World} {sl:Option (Nat×Nat)} {i:Nat} {g rZ:Goroutine} {es:Array Event} {cases:Array CommCase} {shape:CommShape} {blocking:Bool}
theorem Lf(n:Nat)(O:0<n)(w:World):∃a d,a<n/\(choose (.select n)).run P w=.ok a (w.at d):=by
 by_cases U:n<=1;exact⟨0,w.drawn,O,by simp[choose,hM,hA,U,World.at]⟩;refine⟨(Question.select n).cut (w.tape w.drawn (.select n)),w.drawn+1,?_,by simp[choose,hM,hA,U,World.at]⟩;exact Nat.mod_lt _ O
def jr(w:World)(gs:Array Goroutine)(cases:Array CommCase):List (Nat×CommCase×List Way):=(cases.zipIdx.toList.map λ(c,k)=>(k,c,ways w gs c)).filter λ(_,_,ws)=>!ws.isEmpty
theorem mem_ready{gs:Array Goroutine}{x:Nat×CommCase×List Way}(h:x∈jr w₁ gs cases):cases[x.1]?=some x.2.1/\x.2.2=ways w₁ gs x.2.1/\x.2.2≠[]:=by
 unfold jr at h;rw[cS,cP]at h;obtain⟨⟨⟨cc,k⟩,hm,rfl⟩,W⟩:=h;obtain⟨j,U⟩:=cQ.1 hm;simp at U;obtain⟨_,O,rfl,rfl⟩:=U;refine⟨O,rfl,λe=>?_⟩;have e:ways w₁ gs _=[]:=e;simp[e]at W
theorem P9{gs:Array Goroutine}{k:Nat}{cc:CommCase}(O:cases[k]?=some cc)(U:ways w₁ gs cc≠[]):jr w₁ gs cases≠[]:=by
 have:(k,cc,ways w₁ gs cc)∈jr w₁ gs cases:=by
  unfold jr;rw[cS,cP];refine⟨⟨(cc,k),?_,rfl⟩,?_⟩;refine cQ.2 ⟨k,?_⟩;simp[O]
  cases e:ways w₁ gs cc with
  |nil=>exact absurd e U|cons a l=>rfl
 intro e;rw[e]at this;cases this
theorem AG(hi:gs[i]?=some g)(h:b5 P (i==0) g w=.comm rZ cases blocking shape w₁ es)(aa:∀cc∈cases,cA w₁ cc=false)
  (ab:∀(k:Nat)cc,cases[k]?=some cc->ways w₁ (gs.setIfInBounds i ph) cc=[]\/(∃c z cap buf s r tm,cc=bY c z/\w₁.heap[c]?=some (.chan cap buf true s r tm)/\ways w₁ (gs.setIfInBounds i ph) cc=[.closed])\/(∃c z cap buf cl s r tm j q,cc=bY c z/\w₁.heap[c]?=some (.chan cap buf cl s r tm)/\ways w₁ (gs.setIfInBounds i ph) cc=[.partner j q]))
  (af:∃(k:Nat)(cc:CommCase),cases[k]?=some cc/\ways w₁ (gs.setIfInBounds i ph) cc≠[]) :
  (∃(k:Nat)(c:Nat)(z:Value)(d:Nat),cases[k]?=some (bY c z)/\ways w₁ (gs.setIfInBounds i ph) (bY c z)=[.closed]/\bR P (bZ gs w sl) i=(.next (bZ (gs.setIfInBounds i (rZ.finishComm P cases shape k z false)) (w₁.at d) sl),de i g.frame.fn g.frame.place es++#[{g:=i,fn:=rZ.frame.fn,pos:=rZ.frame.place,act:=.recvClosed c}]))\/
  (∃(k:Nat)(c:Nat)(z:Value)(d j q cap s r:Nat)(buf:Array Value)(cl tm:Bool),cases[k]?=some (bY c z)/\w₁.heap[c]?=some (.chan cap buf cl s r tm)/\ways w₁ (gs.setIfInBounds i ph) (bY c z)=[.partner j q]/\
    bR P (bZ gs w sl) i=(.next (bZ ((finishPartner P (gs.setIfInBounds i ph) j q hU).setIfInBounds i (rZ.finishComm P cases shape k (bP (gs.setIfInBounds i ph) j q) true)) {w₁.at d with heap:=w₁.heap.setIfInBounds c (.chan cap buf cl (s+1) (r+1) tm)} sl),
     de i g.frame.fn g.frame.place es++#[{g:=j,fn:=((gs.setIfInBounds i ph).getD j default).frame.fn,pos:=((gs.setIfInBounds i ph).getD j default).frame.place,act:=.send c s},{g:=i,fn:=rZ.frame.fn,pos:=rZ.frame.place,act:=.recv c r cap},{g:=j,fn:=((gs.setIfInBounds i ph).getD j default).frame.fn,pos:=((gs.setIfInBounds i ph).getD j default).frame.place,act:=.sendDone c s},{g:=i,fn:=rZ.frame.fn,pos:=rZ.frame.place,act:=.recvDone c r}])):=by
 obtain⟨k0,ak,ag,ah⟩:=af;have ac:=P9 ag ah
 have ad:0<(jr w₁ (gs.setIfInBounds i ph) cases).length:=by
  cases Y:jr w₁ (gs.setIfInBounds i ph) cases with
  |nil=>exact absurd Y ac|cons a l=>simp
 obtain⟨a,d,ha,ai⟩:=Lf (P:=P) _ ad w₁;obtain⟨x,Y⟩:∃x,(jr w₁ _ cases)[a]?=some x:=⟨_,List.getElem?_eq_getElem ha⟩;have ae:=mem_ready (cQ.2 ⟨a,Y⟩);obtain⟨k,cc,ws⟩:=x;obtain⟨h1,h2,h3⟩:=ae;have U:(jr w₁ (gs.setIfInBounds i ph) cases).getD a (0,default,[])=(k,cc,ws):=by simp[List.getD,Y]
 have W:(jr w₁ (gs.setIfInBounds i ph) cases).isEmpty=false:=by
  cases Y:jr w₁ _ cases with
  |nil=>exact absurd Y ac|cons a l=>rfl
 rw[cw hi h];unfold b6;rw[if_neg (by rw[eC];exact any_ill aa)]
 have O:∀(f:Nat->Sem (Nat×CommCase×Way)),((choose (.select (jr w₁ (gs.setIfInBounds i ph) cases).length)).bind f).run P w₁=(f a).run P (w₁.at d):=by
  intro f;rw[Sem.run_bind',ai];rfl
 have aj:(w₁.at d).heap=w₁.heap:=rfl;rcases ab k cc h1 with e|⟨c,z,cap,buf,s,r,tm,rfl,hc,e⟩|⟨c,z,cap,buf,cl,s,r,tm,j,q,rfl,hc,e⟩
 rw[e]at h2;exact absurd h2 h3;rw[e]at h2;subst h2;refine .inl ⟨k,c,z,d,h1,e,?_⟩;have hf:((cases.zipIdx.toList.map λ(c,k)=>(k,c,ways w₁ (gs.setIfInBounds i ph) c)).filter _)=jr w₁ _ cases:=rfl;simp only[hf,W,en,if_false,bind,O,U];simp[choose,hM,hA,bind,hO,pure,bY,bZ];rw[e]at h2;subst h2;refine .inr ⟨k,c,z,d,j,q,cap,s,r,buf,cl,tm,h1,hc,e,?_⟩;have hf:((cases.zipIdx.toList.map λ(c,k)=>(k,c,ways w₁ (gs.setIfInBounds i ph) c)).filter _)=jr w₁ _ cases:=rfl;simp only[hf,W,en,if_false,bind,O,U];simp[choose,hM,hA,bind,hO,pure,bY,bZ,aj,hc]
end
variable {r z:MemOp} {i p pc pr:Nat}
def lu(t:b9):Prop:=∀op∈t,op.act≠.mark .disable/\op.act≠.mark .enable
section
variable {t u:b9}
theorem lu.append(U:lu t)(W:lu u):lu (t++u):=λop O=>(Array.mem_append.1 O).elim (U op) (W op)
theorem lu.deaf(h:lu t)(g:Nat):∀i,t.deaf g i=0:=by
 intro i;induction i with
 |zero=>rfl|succ i U=>
  unfold b9.deaf;split;rename_i O;exact absurd rfl (h _ (cy O)).1;rename_i O;exact absurd rfl (h _ (cy O)).2;exact U
theorem lu.heard(h:lu t){op:MemOp}(hi:t[i]?=some op):t.heard i:=⟨op.g,by simp[hD,hi],h.deaf ..⟩
theorem Mf(W:lu t){c:Nat}(Y:t[pc]?=some z)(O:z.act=.close c)(hr:t[pr]?=some r)(U:r.act=.recvClosed c):bS t pc pr:=
 .single (.inr ⟨.closed (c:=c) (by simp[hC,Y,O]) (by simp[hC,hr,U]),W.heard Y,W.heard hr⟩)
theorem Mx(Y:lu t){c:Nat}(hz:t[pc]?=some z)(O:z.act=.close c)(W:t[pr]?=some r)(U:r.act=.recvClosed c)(hp:Before t p pc):cq t r.g p:=
 ⟨pr,r,W,rfl,.inr (hp.hb (Mf Y hz O W U))⟩
theorem I8(Y:lu t){c:Nat}(W:t[pc]?=some z)(O:z.act=.close c)(hr:t[pr]?=some r)(U:r.act=.recvClosed c){y:MemOp}(hy:t[p]?=some y)(hg:y.g=z.g)(hp:p<=pc):cq t r.g p:=by
 refine Mx Y W O hr U ?_;rcases Nat.lt_or_eq_of_le hp with h|h
 exact .inr (hb_po h hy W hg);exact .inl h
theorem Fx{n:Nat}{a b:MemOp}(hw:lu (t++#[a,b]))(ha:a.g=i)(U:a.act=.go n)(hb:b.g=n)(W:b.act=.start)(hp:cq t i p):cq (t++#[a,b]) n p:=by
 have Y:(t++#[a,b])[t.size]?=some a:=by simp
 have O:(t++#[a,b])[t.size+1]?=some b:=by simp
 have e1:=hp.hb_new (cZ _) Y ha;have e2:bS .. := .single (.inr ⟨.spawn (child:=n) (by simp[hC,Y,U]) (by simp[hC,O,W]) (by simp[hD,O,hb]),hw.heard Y,hw.heard O⟩);exact⟨t.size+1,b,O,hb,.inr (e1.trans e2)⟩
theorem ni.mute{g:Nat}{m:Ren}(h:ni t g m)(Y:∀op∈u,op.act.touch?=none):ni (t++u) g m:=by
 intro p x q r hx hq hr O;rcases dZ hx with⟨_,U⟩|⟨op,U,_,W⟩
 exact(h p x q r U hq hr O).app u;rw[Y op U]at W;cases W
end
def lP(t:b9)(A:Nat->Prop):Prop:=∀p a,ca t p=some a->a.loc.isMemory=true->cq t 0 p\/∃op,t[p]?=some op/\A op.g
section
variable {t u:b9} {A A':Nat->Prop}
theorem lP.mono(h:lP t A)(O:∀i,A i->A' i):lP t A':=λp a U hm=>(h p a U hm).imp id λ⟨op,W,Y⟩=>⟨op,W,O _ Y⟩
theorem lP.app(h:lP t A)(Y:∀op∈u,op.act.touch?=none\/op.g=0\/A op.g):lP (t++u) A:=by
 intro p a ha hm;rcases dZ ha with⟨hp,O⟩|⟨op,O,U,W⟩
 rcases h p a O hm with x|⟨op,x,y⟩
 exact .inl (x.app u);exact .inr ⟨op,by rw[ci hp];exact x,y⟩;rcases Y op O with x|x|x
 rw[x]at W;cases W;have:=cu U;rw[x]at this;exact .inl this;exact .inr ⟨op,U,x⟩
theorem lP.join(h:lP t A)(hw:lu t){j pc pr c:Nat}{z r:MemOp}(hz:t[pc]?=some z)(U:z.g=j)(W:z.act=.close c)(hr:t[pr]?=some r)(Y:r.g=0)(aa:r.act=.recvClosed c)(O:∀p a op,ca t p=some a->t[p]?=some op->op.g=j->p<=pc):lP t λi=>A i/\i≠j:=by
 intro p a ha hm;rcases h p a ha hm with x|⟨op,x,y⟩
 exact .inl x;by_cases e:op.g=j;have:=I8 hw hz W hr aa x (e.trans U.symm) (O p a op ha x e);rw[Y]at this;exact .inl this;exact .inr ⟨op,x,y,e⟩
theorem lP.over(h:lP t λ_=>False):t.HandedOver:=by
 intro i g hg O hc;obtain⟨x,hx,hm,_⟩:=hc;rcases h i x hx hm with⟨q,z,W,Y,U⟩|⟨_,_,h⟩
 refine⟨q,by simp[hD,W,Y],?_⟩;rcases U with rfl|U
 exact absurd (by simpa[hD,W,Y]using hg.symm) O;exact U;exact h.elim
theorem OI{m:Ren}{e:Event}(h:oG m e):ga e≠.mark .disable/\ga e≠.mark .enable:=by
 obtain⟨loc,wr,O⟩:=e
 cases loc with
 |mark x=>
  have U:=h;cases x<;>first|exact U.elim|simp[ga]
 |_=>cases wr<;>cases O<;>simp[ga]
theorem AO(h:lu t){m:Ren}{g:Nat}{fn:b8}{pos:String}{es:Array Event}(W:∀e∈es,oG m e):lu (t++de g fn pos es):=by
 refine h.append λop O=>?_;obtain⟨e,U,rfl⟩:=bU O;exact OI (W e U)
end
end
section
open Go.Conc
structure mJ where
 gl:Nat->Prop
 T:List Frame
 Stop:LS->Prop
 r:Nat
 c:Nat
 rd:Nat
 L:List Value
 kQ:Nat->Nat->Obj->Prop
structure mJ.Ok(P:Program)(J:mJ):Prop where
 blind:yJ J.Stop
 holds:∀S,J.Stop S->Holds S J.r J.L
 TD:∀S,J.Stop S->S.cs=[door P]/\S.fr.mode=.returning/\S.fr.defers=[⟨.collected J.rd,#[.chan (some J.r)]⟩]/\∃fn,P.funcs[S.fr.fn]?=some fn/\fn.results=#[]/\fn.norace=false
 back:∀S,J.Stop S->∀r b o,J.kQ r b o->S.w.heap[r]?=some o/\∀(m:Go.Proofs.YtocbogeoffeolaaGreatDoor.Ren)o',OR m o o'->o'=o
 US:∃ps,J.T=[ps]/\ps.mode=.panicking [bB]/\ps.defers=[]/\P.funcs[ps.fn]?=none/\ps.todo=[]
structure mJ.Ren(J:mJ)(m:Go.Proofs.YtocbogeoffeolaaGreatDoor.Ren):Prop where
 ch:m.ch J.r=some J.c
 only:∀r r',m.ch r=some r'->r=J.r
 dead:m.dead J.rd
 kQ:∀r b o,J.kQ r b o->m.blk r=some b
theorem mJ.Ren.le{J:mJ}{m dx:Go.Proofs.YtocbogeoffeolaaGreatDoor.Ren}(h:J.Ren m)(O:m.Le dx)(U:dx.ch=m.ch):J.Ren dx:=⟨by rw[U];exact h.ch,λr r' x=>by rw[U]at x;exact h.only r r' x,by rw[O.dead];exact h.dead,λr b o x=>O.blk r b (h.kQ r b o x)⟩
structure mJ.Act(P:Program)(J:mJ)(m:Go.Proofs.YtocbogeoffeolaaGreatDoor.Ren)(S:LS)(n:Nat)(g:Goroutine)(w:World):Prop where
 mO:J.Ren m
 nu:lF P J.Stop S
 rS:∃fr' cs',g=G fr' cs'/\wF P J.gl false m J.T S fr' cs' w
 gI:∃l,Holds S J.r l/\l.length=n
structure mJ.LM(P:Program)(J:mJ)(m:Go.Proofs.YtocbogeoffeolaaGreatDoor.Ren)(S:LS)(n:Nat)(v':Value)(g:Goroutine)(w:World):Prop where
 mO:J.Ren m
 nu:lF P J.Stop S
 rS:∃v fr' cs',g=G fr' cs'/\pH P J.gl false m J.T S J.r J.c v v' fr' cs' w
 gI:∃l,Holds S J.r l/\l.length=n+1
section
variable {P:Program} {J:mJ} {m:Go.Proofs.YtocbogeoffeolaaGreatDoor.Ren} {S:LS} {n:Nat} {g:Goroutine} {w:World}
theorem mJ.LM.value(Y:J.Ok P){U:Value}(h:J.LM P m S n U g w):∃v,J.L[n]?=some v/\VR m v U:=by
 obtain⟨v,fr',cs',_,W⟩:=h.rS;obtain⟨l,hl,hn⟩:=h.gI;obtain⟨l0,h1,h2⟩:=W.next h.nu Y.holds;have e:=hl.one h1;subst e;have O:=by simpa using hn
 refine⟨v,?_,W.val⟩;obtain⟨tl,e⟩:=h2;rw[<-e,<-O];simp
theorem mJ.LM.done{O:Value}(h:J.LM P m S n O g w):∃dx,m.Le dx/\dx.blk=m.blk/\dx.loose=m.loose/\J.Act P dx S (n+1) (bX g hU) w:=by
 obtain⟨v,fr',cs',rfl,U⟩:=h.rS;obtain⟨o,W⟩:=U.done;exact⟨m.put _ o,Ren.oD ..,rfl,rfl,h.mO.le (Ren.oD ..) rfl,h.nu,⟨_,_,rfl,W⟩,h.gI⟩
theorem mJ.Act.stands(U:J.Ok P)(h:J.Act P m S n g w)(O:J.Stop S):n=J.L.length/\∃fr ps a t cs,g=G fr [ps]/\fr.mode=.returning/\fr.defers=[⟨.builtin .close a t cs,#[.chan (some J.c)]⟩]/\(P.funcs[fr.fn]?).any (·.norace)=false/\Lv P 2 (G {fr with defers:=[]} [ps]):=by
 obtain⟨fr',cs',rfl,hs⟩:=h.rS;obtain⟨l,hl,rfl⟩:=h.gI;obtain⟨f1,f2,f3,fn,f4,f5,f6⟩:=U.TD S O;obtain⟨ps,W,Y,p2,p3,p4⟩:=U.US;obtain⟨g1,g2,⟨a,t,cs,g3⟩,g4,g5⟩:=hs.S9 f1 f2 f3 h.mO.dead h.mO.ch;refine⟨by rw[hl.one (U.holds S O)],fr',ps,a,t,cs,by rw[g2,W],g1,g3,by rw[g5,f4];simp[f6],?_⟩
 have hk:fr'.kind=.deferred:=by
  rcases g4 with⟨_,h⟩|⟨h,_⟩
  exact absurd Y (h ps W);exact h
 exact Dl (fn:=fn) g1 rfl hk (by rw[g5];exact f4) f5 Y p2 p3 p4
end
inductive mJ.Next(P:Program)(J:mJ)(m:Go.Proofs.YtocbogeoffeolaaGreatDoor.Ren)(S:LS)(n:Nat)(w:World):GStep->Prop
 |go {S' dx g₁ w₁ es}:nB P J.Stop S' S->m.Le dx->J.Act P dx S' n g₁ w₁->fA m dx w w₁->(∀e∈es,oG dx e)->mJ.Next P J m S n w (.go g₁ w₁ es)|send {S' dx g₁ w₁ es v' z'}:nB P J.Stop S' S->m.Le dx->J.LM P dx S' n v' g₁ w₁->fA m dx w w₁->(∀e∈es,oG dx e)->mJ.Next P J m S n w (.comm g₁ #[cf J.c v' z'] true .send w₁ es)
section
variable {P:Program} {J:mJ} {m:Go.Proofs.YtocbogeoffeolaaGreatDoor.Ren} {S:LS} {n:Nat} {g:Goroutine} {w:World}
theorem KD{T:List Frame}{gl:Nat->Prop}{st:Bool}{Stop:LS->Prop}{S S':LS}{fr':Frame}{cs':List Frame}{w':World}(U:yJ Stop)(O:wF P gl st m T S fr' cs' w')(W:lF P Stop S)(Y:nB P Stop S' S){r r':Nat}{l:List Value}(hr:m.ch r=some r')(hl:Holds S r l):Holds S' r l\/∃v,Holds S' r (l++[v]):=by
 obtain⟨hn,τ,hb,ho⟩:=Y;have hf:=(W.step U ⟨_,_,_,_,_,_,_,O⟩ hn τ hb).1;obtain⟨_,_,_,_,_,_,h⟩:=(O.on τ).Ud (λx=>hf ⟨x.1,x.2⟩) ho;exact h r r' l hr hl
theorem mJ.Act.AV(hJ:J.Ok P)(h:J.Act P m S n g w)(hn:¬J.Stop S):mJ.Next P J m S n w (b5 P false g w):=by
 obtain⟨fr',cs',rfl,W⟩:=h.rS;obtain⟨l,hl,ad⟩:=h.gI;have hd:=W.Ue hJ.blind h.nu hn false;generalize b5 P false _ w=s at hd
 cases hd with
 |@go S' dx Y aa w₁ es hg U ae hk he=>
  have hh:=(h.nu.own hJ.blind ⟨_,_,_,_,_,_,_,W⟩ hg).2;refine .go hg U ⟨h.mO.le U (hk.mz W.il),hh,⟨_,_,rfl,ae⟩,l,?_,ad⟩ hk he;obtain⟨cap,buf,gI,O,tm,hx⟩:=W.op _ _ h.mO.ch;have a:=(W.world.kI _ _ hx).1;have b:=(ae.world.kI _ _ (by rw[hk.kI];exact hx)).1;have e:=hl.one ⟨cap,buf,gI,O,tm,a,rfl⟩;exact⟨cap,buf,gI,O,tm,b,e.symm⟩
 |@send S' dx Y aa w₁ es r r' v v' z' hg U hp hk he=>
  have hh:=(h.nu.own hJ.blind ⟨_,_,_,_,_,_,_,W⟩ hg).2;have af:=hk.mz W.il;have hr:m.ch r=some r':=by rw[<-af];exact hp.ch
  have er:=h.mO.only r r' hr;subst er;have ai:r'=J.c:=by rw[h.mO.ch]at hr;cases hr;rfl
  subst ai;refine .send hg U ⟨h.mO.le U af,hh,⟨v,_,_,rfl,hp⟩,?_⟩ hk he;obtain⟨l0,h1,_⟩:=hp.next hh hJ.holds;refine⟨l0++[v],h1,?_⟩;rcases KD hJ.blind W h.nu hg h.mO.ch hl with x|⟨u,x⟩
  obtain⟨f0,wl,cap,buf,gI,O,tm,e1,_,aj,hc,_⟩:=hp.rS;obtain⟨ag,ah,ab,ac,ak,hx⟩:=W.op _ _ h.mO.ch;have a:=(W.world.kI _ _ hx).1;have b:=(aj.kI _ _ (by rw[hk.kI];exact hx)).1;have e:=hl.one ⟨ag,ah,ab,ac,ak,a,rfl⟩;rw[hc]at b;cases b
  have hS:Holds S' J.r (buf.toList++[v]):=by
   rw[e1];refine⟨cap,buf.push v,gI+1,O,tm,?_,by simp⟩;simp[jE hc]
  have:=hS.one x;rw[e]at this;simp at this;have:=h1.one x;simp[this,ad]
end
variable {J:mJ} {fC Pd:Nat->Prop} {m:Ren}
def rb(P:Program)(J:mJ)(m:Ren)(S:LS):Nat->Goroutine->Prop
 |0,g=>g.status=.running/\∀w,WR m S.w w->∃fr' cs' d es,b5 P false g w=.go (G fr' cs') (w.at d) es/\(∀e∈es,oG m e)/\wF P J.gl false m J.T S fr' cs' (w.at d)|k+1,g=>g.status=.running/\∀w,WR m S.w w->∃g' d es,b5 P false g w=.go g' (w.at d) es/\(∀e∈es,oG m e)/\rb P J m S k g'
inductive eA
 |quit (q:Nat)|ended (heard:Bool) (J:mJ) (m:Ren) (S:LS) (q:Nat)|act (J:mJ) (m:Ren) (S:LS) (n:Nat)|jk (J:mJ) (m:Ren) (S:LS) (n:Nat) (v:Value)|start (J:mJ) (m:Ren) (S:LS) (k:Nat)
def eA.mO:eA->Option Ren
 |.quit _=>none|.ended _ _ m _ _|.act _ m _ _|.jk _ m _ _ _|.start _ m _ _=>some m
def eA.live:eA->Option Ren
 |.quit _|.ended .. => none|.act _ m _ _|.jk _ m _ _ _|.start _ m _ _=>some m
def eA.rR:eA->Option mJ
 |.quit _=>none|.ended _ J _ _ _|.act J _ _ _|.jk J _ _ _ _|.start J _ _ _=>some J
def eA.chan:eA->Option mJ
 |.quit _|.ended .. => none|.act J _ _ _|.jk J _ _ _ _|.start J _ _ _=>some J
def eA.sum:eA->Option (mJ×Nat)
 |.quit _|.ended true .. => none|.ended false J _ _ _=>some (J,J.L.length)|.act J _ _ n|.jk J _ _ n _=>some (J,n)|.start J _ _ _=>some (J,0)
def fX(w:World)(c:Nat)(cl:Bool):Prop:=∃s r,w.heap[c]?=some (.chan 0 #[] cl s r false)
def At(P:Program)(w:World)(t:b9)(i:Nat)(g:Goroutine):eA->Prop
 |.quit q=>Lv P q g|.ended _ J m S q=>Lv P q g/\J.Ren m/\(J.Stop S/\J.Ok P)/\WR m S.w w/\fX w J.c true/\∃pc z,t[pc]?=some z/\z.g=i/\z.act=.close J.c/\∀p a op,ca t p=some a->t[p]?=some op->op.g=i->p<=pc|.act J m S n=>J.Ok P/\fX w J.c false/\J.Act P m S n g w|.jk J m S n v=>J.Ok P/\fX w J.c false/\∃g0 z,g=parked g0 #[cf J.c v z] .send/\J.LM P m S n v g0 w|.start J m S k=>J.Ok P/\fX w J.c false/\J.Ren m/\lF P J.Stop S/\Holds S J.r []/\WR m S.w w/\rb P J m S k g
section
variable {P:Program} {w w₁:World} {t u:b9} {i:Nat} {g:Goroutine} {ρ:eA}
theorem WR.at{wl:World}(h:WR m wl w)(d:Nat):WR m wl (w.at d):=h.rely (λ_ _ _=>rfl) (cZ _) rfl
theorem rb.status{S:LS}{k:Nat}(h:rb P J m S k g):g.status=.running:=by cases k<;>exact h.1
theorem At.status(h:At P w t i g ρ):g.status=.running\/g.status=.blocked\/g.status=.finished:=by
 cases ρ with
 |quit q=>exact h.status.elim .inl λx=>.inr (.inr x)|ended O J m S q=>exact h.1.status.elim .inl λx=>.inr (.inr x)|act J m S n=>
  obtain⟨_,_,h⟩:=h;obtain⟨fr,cs,rfl,_⟩:=h.rS;exact .inl rfl
 |jk J m S n v=>
  obtain⟨_,_,g0,z,rfl,_⟩:=h;exact .inr (.inl rfl)
 |start J m S k=>exact .inl h.2.2.2.2.2.2.status
theorem At.wr(h:At P w t i g ρ)(hm:ρ.mO=some m):∃wl,WR m wl w:=by
 cases ρ with
 |quit q=>cases hm
 |ended Y J m S q=>cases hm;exact⟨_,h.2.2.2.1⟩
 |act J m S n=>
  cases hm;obtain⟨_,_,h⟩:=h;obtain⟨fr,cs,rfl,O⟩:=h.rS;exact⟨_,O.world⟩
 |jk J m S n v=>
  cases hm;obtain⟨_,_,g0,z,rfl,U⟩:=h;obtain⟨_,_,_,_,O⟩:=U.rS;obtain⟨_,wl,_,_,_,_,_,_,_,W,_⟩:=O.rS;exact⟨wl,W⟩
 |start J m S k=>cases hm;exact⟨_,h.2.2.2.2.2.1⟩
theorem At.U9(h:At P w t i g ρ)(hm:ρ.mO=some m)(O:ρ.rR=some J):J.Ren m:=by
 cases ρ with
 |quit q=>cases hm
 |ended W J m S q=>cases hm;cases O;exact h.2.1
 |act J m S n=>cases hm;cases O;exact h.2.2.mO
 |jk J m S n v=>
  cases hm;cases O;obtain⟨_,_,g0,z,rfl,U⟩:=h;exact U.mO
 |start J m S k=>cases hm;cases O;exact h.2.2.1
theorem At.is(h:At P w t i g ρ)(O:ρ.rR=some J):∃cl,fX w J.c cl:=by
 cases ρ with
 |quit q=>cases O
 |ended U J m S q=>cases O;exact⟨_,h.2.2.2.2.1⟩
 |act J m S n=>cases O;exact⟨_,h.2.1⟩
 |jk J m S n v=>cases O;exact⟨_,h.2.1⟩
 |start J m S k=>cases O;exact⟨_,h.2.1⟩
theorem At.rely(h:At P w t i g ρ)(hk:∀m,ρ.mO=some m->∀r b,m.blk r=some b->w₁.heap[b]?=w.heap[b]?)(hc:∀J,ρ.rR=some J->w₁.heap[J.c]?=w.heap[J.c]?)(hs:w.heap.size<=w₁.heap.size)(ho:w₁.os=w.os)(hu:∀op∈u,op.g=i->op.act.touch?=none):At P w₁ (t++u) i g ρ:=by
 have W:∀J cl,ρ.rR=some J->fX w J.c cl->fX w₁ J.c cl:=by
  rintro J cl hJ ⟨s,r,h⟩;exact⟨s,r,by rw[hc J hJ];exact h⟩
 cases ρ with
 |quit q=>exact h|ended hd J m S q=>
  obtain⟨Y,h2,O,h4,h5,pc,z,h6,h7,h8,h9⟩:=h;refine⟨Y,h2,O,h4.rely (hk m rfl) hs ho,W J _ rfl h5,pc,z,by rw[ci (cr h6)];exact h6,h7,h8,λp a op ha aa hg=>?_⟩;rcases dZ ha with⟨hp,Y⟩|⟨ab,x1,x2,x3⟩
  exact h9 p a op Y (by rw[<-ci hp];exact aa) hg;rw[x2]at aa;cases aa;rw[hu _ x1 hg]at x3;cases x3
 |act J m S n=>
  obtain⟨Y,h2,O⟩:=h;obtain⟨fr,cs,rfl,U⟩:=O.rS;exact⟨Y,W J _ rfl h2,O.mO,O.nu,⟨fr,cs,rfl,U.rely (hk m rfl) hs ho⟩,O.gI⟩
 |jk J m S n v=>
  obtain⟨Y,h2,g0,z,rfl,O⟩:=h;obtain⟨v0,fr,cs,e,U⟩:=O.rS;exact⟨Y,W J _ rfl h2,g0,z,rfl,O.mO,O.nu,⟨v0,fr,cs,e,U.rely (hk m rfl) hs ho⟩,O.gI⟩
 |start J m S k=>
  obtain⟨Y,h2,O,h4,h5,h6,h7⟩:=h;exact⟨Y,W J _ rfl h2,O,h4,h5,h6.rely (hk m rfl) hs ho,h7⟩
theorem At.woken(h:At P w t i g ρ)(a O:Goroutine):cC P a O w g=g:=by
 cases ρ with
 |quit q=>exact c7 h.Fo|ended W J m S q=>exact c7 h.1.Fo|act J m S n=>
  obtain⟨_,_,h⟩:=h;obtain⟨fr,cs,rfl,_⟩:=h.rS;exact woken_run rfl
 |jk J m S n v=>
  obtain⟨_,⟨s,r,U⟩,g0,z,rfl,_⟩:=h;exact woken_send_open a O U
 |start J m S k=>exact woken_run h.2.2.2.2.2.2.status
end
def Kn(fC:Nat->Prop)(ρ:Nat->eA)(t:b9):Prop:=∀p a b,ca t p=some a->kM a.loc=some b->fC b->cq t 0 p\/∃i m' r,(ρ i).mO=some m'/\m'.blk r=some b
theorem Kn.app{ρ ρ':Nat->eA}{t u:b9}(h:Kn fC ρ t)(Y:∀i m' r b,(ρ i).mO=some m'->m'.blk r=some b->∃i' O r',(ρ' i').mO=some O/\O.blk r'=some b)(hu:∀op∈u,∀a b,op.act.touch?=some a->kM a.loc=some b->fC b->op.g=0\/∃i m' r,(ρ' i).mO=some m'/\m'.blk r=some b):Kn fC ρ' (t++u):=by
 intro p a b ha hb W;rcases dZ ha with⟨_,U⟩|⟨op,U,h2,h3⟩
 rcases h p a b U hb W with x|⟨i,m',r,x,y⟩
 exact .inl (x.app u);exact .inr (Y i m' r b x y);rcases hu op U a b h3 hb W with x|x
 have:=cu h2;rw[x]at this;exact .inl this;exact .inr x
theorem Kn.same{ρ ρ':Nat->eA}{t:b9}(h:Kn fC ρ t)(O:∀j,(ρ' j).mO=(ρ j).mO):Kn fC ρ' t:=λp a b U hb W=>(h p a b U hb W).imp id λ⟨i,m',r,x,y⟩=>⟨i,m',r,by rw[O];exact x,y⟩
def SK(Pd fC:Nat->Prop)(ρ:Nat->eA)(w:World)(t:b9):Prop:=∀c,Pd c->fX w c false/\(∀p a,ca t p=some a->kM a.loc≠some c)/\(∀i J,(ρ i).rR=some J->J.c≠c)/\¬fC c
theorem SK.app{ρ ρ':Nat->eA}{w w₁:World}{t u:b9}(h:SK Pd fC ρ w t)(W:∀j,(ρ' j).rR=(ρ j).rR)(Y:∀c,Pd c->fX w c false->w₁.heap[c]?=w.heap[c]?)(hu:∀op∈u,∀a c,op.act.touch?=some a->Pd c->fX w c false->kM a.loc≠some c):SK Pd fC ρ' w₁ (t++u):=by
 intro c O;obtain⟨⟨s,r,U⟩,h2,h3,h4⟩:=h c O;refine⟨⟨s,r,by rw[Y c O ⟨s,r,U⟩];exact U⟩,λp a ha=>?_,λi J hJ=>h3 i J (by rw[<-W];exact hJ),h4⟩;rcases dZ ha with⟨_,x⟩|⟨op,x,_,y⟩
 exact h2 p a x;exact hu op x a c y O ⟨s,r,U⟩
theorem SK.same{ρ ρ':Nat->eA}{w w₁:World}{t:b9}(h:SK Pd fC ρ w t)(O:∀j,(ρ' j).rR=(ρ j).rR)(U:w₁.heap=w.heap):SK Pd fC ρ' w₁ t:=by
 have:=h.app (u:=#[]) (w₁:=w₁) O (λc _ _=>by rw[U]) (by simp);simpa using this
def oJ:Obj:=.deferred none
def U4(fC:Nat->Prop)(w0:World)(ρ:Nat->eA):Prop:=∀b,b<w0.heap.size->fC b\/(∃i J r o,(ρ i).rR=some J/\J.kQ r b o/\w0.heap[b]?=some o)\/w0.heap[b]?=some oJ
theorem U4.same{w0:World}{ρ ρ':Nat->eA}(h:U4 fC w0 ρ)(O:∀j,(ρ' j).rR=(ρ j).rR):U4 fC w0 ρ':=λb hb=>(h b hb).imp id λz=>z.imp (λ⟨i,J,r,o,x,y⟩=>⟨i,J,r,o,by rw[O];exact x,y⟩) id
structure Co(P:Program)(fC:Nat->Prop)(w0:World)(Pd:Nat->Prop)(ρ:Nat->eA)(m:Ren)(wl:World)(gs:Array Goroutine)(w:World)(t:b9):Prop where
 main:WR m wl w
 at_:∀i g,0<i->gs[i]?=some g->At P w t i g (ρ i)
 out:∀i,i=0\/gs.size<=i->ρ i=.quit 0
 d0:∀i m',(ρ i).mO=some m'->nS m m'
 dd:∀i j m1 m2,i≠j->(ρ i).mO=some m1->(ρ j).mO=some m2->nS m1 m2
 cc:∀i j J1 J2,i≠j->(ρ i).rR=some J1->(ρ j).rR=some J2->J1.c≠J2.c
 s0:ni t 0 m
 ss:∀i m',(ρ i).live=some m'->ni t i m'
 My:∀i J,(ρ i).chan=some J->∀p a,ca t p=some a->kM a.loc≠some J.c
 low:Nw t w.heap.size
 hears:lu t
 kw:lP t λi=>(ρ i).sum≠none
 clean:∀said,¬bT said t
 fix:∀b,fC b->b<w.heap.size/\w.heap[b]?=w0.heap[b]?
 f0:∀r b,m.blk r=some b->fC b->m.loose r
 ff:∀i m',(ρ i).mO=some m'->∀r b,m'.blk r=some b->fC b->m'.loose r
 cx:∀i J,(ρ i).rR=some J->¬fC J.c
 sz:w0.heap.size<=w.heap.size
 os:w.os=w0.os/\w.output=w0.output
 kn:Kn fC ρ t
 pd:SK Pd fC ρ w t
 len:U4 fC w0 ρ
end
section
open Go.Conc
open Go.ConcN (upd upd_same upd_ne)
variable {es:Array Event} {fn:b8} {g':Goroutine} {J:mJ} {c:Nat} {dx:Ren} {ρ':eA} {pos:String}
theorem fA.at(m:Ren)(w:World)(d:Nat):fA m m w (w.at d):=⟨λ_ _ _=>rfl,cZ _,λr' h O=>absurd O (by show ¬r'<w.heap.size;omega),λ_ _ h=>.inl h,λ_ _ h=>.inl h,rfl,rfl,rfl,λ_=>rfl,rfl,λ_ _ _ _=>rfl⟩
theorem eA.nN{ρ:eA}{m:Ren}(h:ρ.live=some m):ρ.mO=some m:=by cases ρ<;>first|cases h;rfl|cases h
theorem eA.ux{ρ:eA}(h:ρ.chan=some J):ρ.rR=some J:=by cases ρ<;>first|cases h;rfl|cases h
theorem eA.P2{ρ:eA}{m:Ren}(h:ρ.live=some m):ρ.sum≠none:=by cases ρ<;>first|(simp[eA.sum];done)|cases h
theorem WR.zy{m:Ren}{wl w:World}(h:WR m wl w){cl:Bool}(O:fX w c cl){r:Nat}:m.blk r≠some c:=by
 intro W;obtain⟨s,y,O⟩:=O;obtain⟨o,o',_,U,Y⟩:=h.obj r c W;rw[O]at U;cases U;cases Y
theorem fA.P4{m:Ren}{w w₁ wl:World}(U:fA m dx w w₁)(W:WR m wl w){cl:Bool}(O:fX w c cl):w₁.heap[c]?=w.heap[c]?:=by
 obtain⟨s,y,O⟩:=O;rw[O];exact U.chan W O
theorem ofEvents_g{g:Nat}{op:MemOp}(h:op∈de g fn pos es):op.g=g:=by
 obtain⟨e,_,rfl⟩:=bU h;rfl
section
variable {P:Program} {fC:Nat->Prop} {w0:World} {Pd:Nat->Prop} {ρ:Nat->eA} {m:Ren} {wl:World} {gs gs':Array Goroutine} {w w₁:World} {t:b9}
theorem Co.get(h:Co P fC w0 Pd ρ m wl gs w t){i:Nat}(W:ρ i≠.quit 0):∃g,0<i/\gs[i]?=some g/\At P w t i g (ρ i):=by
 by_cases hi:i=0\/gs.size<=i;exact absurd (h.out i hi) W;have O:i<gs.size:=by omega
 have U:=bn O;exact⟨gs[i],by omega,U,h.at_ i _ (by omega) U⟩
theorem Co.wr(h:Co P fC w0 Pd ρ m wl gs w t){i:Nat}{m':Ren}(O:(ρ i).mO=some m'):∃wl',WR m' wl' w:=by
 obtain⟨g,_,_,U⟩:=h.get (i:=i) λe=>by rw[e]at O;cases O
 exact U.wr O
theorem Co.is(h:Co P fC w0 Pd ρ m wl gs w t){i:Nat}(O:(ρ i).rR=some J):∃cl,fX w J.c cl:=by
 obtain⟨g,_,_,U⟩:=h.get (i:=i) λe=>by rw[e]at O;cases O
 exact U.is O
theorem Co.step{i:Nat}{mi:Ren}{qy:World}(h:Co P fC w0 Pd ρ m wl gs w t)(hi:0<i)(ay:i<gs.size)(hl:(ρ i).live=some mi)(ae:mi.Le dx)(Y:fA mi dx w w₁)(he:∀e∈es,oG dx e)(ab:WR dx qy w₁)
  (ai:At P w₁ (t++de i fn pos es) i g' ρ') (aj:ρ'.live=some dx) (an:ρ'.rR=(ρ i).rR) (hc:ρ'.chan=(ρ i).chan) (hs:ρ'.sum=(ρ i).sum)
  (ao:gs'.size=gs.size) (ap:gs'[i]?=some g') (aq:∀j x,0<j->j≠i->gs'[j]?=some x->∃y,gs[j]?=some y/\(At P w₁ (t++de i fn pos es) j y (ρ j)->x=y)) :
  Co P fC w0 Pd (cM ρ i ρ') m wl gs' w₁ (t++de i fn pos es):=by
 have hr:=eA.nN hl;have ad:=eA.nN aj;obtain⟨az,ar⟩:=h.wr hr;have W:∀c cl,fX w c cl->w₁.heap[c]?=w.heap[c]?:=λc cl x=>Y.P4 ar x
 have aa:∀j,(cM ρ i ρ' j).rR=(ρ j).rR:=λj=>by
  by_cases e:j=i;subst e;rw[cK];exact an;rw[cL _ _ e]
 have ak:∀j,(cM ρ i ρ' j).chan=(ρ j).chan:=λj=>by
  by_cases e:j=i;subst e;rw[cK];exact hc;rw[cL _ _ e]
 have ag:∀j,(cM ρ i ρ' j).sum=(ρ j).sum:=λj=>by
  by_cases e:j=i;subst e;rw[cK];exact hs;rw[cL _ _ e]
 have dm:nS m dx:=(nS.grow (h.d0 i mi hr).symm ae Y h.main).symm
 have dj:∀j m',j≠i->(ρ j).mO=some m'->nS dx m':=λj m' U O=>by
  obtain⟨wl',au⟩:=h.wr O;exact nS.grow (h.dd i j mi m' (g8 U) hr O) ae Y au
 have hrel:∀j y,0<j->j≠i->gs[j]?=some y->At P w₁ (t++de i fn pos es) j y (ρ j):=by
  intro j y hj U hy;refine(h.at_ j y hj hy).rely (λm' O=>Y.leaves (h.dd i j mi m' (g8 U) hr O) (h.wr O).choose_spec) (λJ hJ=>?_) Y.size Y.os λop ac hg=>absurd (ofEvents_g ac) (by rw[hg];exact U);obtain⟨cl,hx⟩:=h.is hJ;exact W _ cl hx
 have av:∀j x,0<j->gs'[j]?=some x->At P w₁ (t++de i fn pos es) j x (cM ρ i ρ' j):=by
  intro j x al hx;by_cases e:j=i;subst e;rw[ap]at hx;cases hx;rw[cK];exact ai;rw[cL _ _ e];obtain⟨y,hy,aw⟩:=aq j x al e hx;have:=hrel j y al e hy;rw[aw this];exact this
 have si:ni t i dx:=(h.ss i mi hl).grow ae h.low Y.news;refine⟨h.main.rely (Y.leaves (h.d0 i mi hr).symm h.main) Y.size Y.os,av,λj hj=>?_,λj m' O=>?_,λj k m1 m2 U h1 h2=>?_,λj k J1 J2 U h1 h2=>h.cc j k J1 J2 U (by rw[<-aa];exact h1) (by rw[<-aa];exact h2),h.s0.other dm he,λj m' O=>?_,λj J hJ p a ha hb=>?_,h.low.own ab Y.size he,AO h.hears he,?_,si.clean h.clean he,λb hb=>?_,h.f0,λj m' O r b am hb=>?_,λj J hJ=>h.cx j J (by rw[<-aa];exact hJ),da h.sz Y.size,⟨Y.os.trans h.os.1,Y.output.trans h.os.2⟩,h.kn.app (λj m' r b O hb=>?_) (λop ac a b ha hb _=>?_),h.pd.app aa (λc _ ah=>W c _ ah) (λop ac a c ha _ ah hb=>?_),h.len.same aa⟩;rw[cL _ _ (by rintro rfl;rcases hj with x|x<;>omega)];exact h.out j (by rw[<-ao];exact hj);by_cases e:j=i;subst e;rw[cK,ad]at O;cases O;exact dm;rw[cL _ _ e]at O;exact h.d0 j m' O;by_cases e:j=i;subst e;rw[cK,ad]at h1;cases h1;rw[cL _ _ (g8 U)]at h2;exact dj k m2 (g8 U) h2;rw[cL _ _ e]at h1;by_cases e':k=i;subst e';rw[cK,ad]at h2;cases h2;exact(dj j m1 e h1).symm;rw[cL _ _ e']at h2;exact h.dd j k m1 m2 U h1 h2;by_cases e:j=i;subst e;rw[cK,aj]at O;cases O;exact si.own;rw[cL _ _ e]at O;exact(h.ss j m' O).other (dj j m' e (eA.nN O)).symm he;rw[ak]at hJ;rcases dZ ha with⟨_,h1⟩|⟨op,h1,_,h3⟩
 exact h.My j J hJ p a h1 hb;obtain⟨e,af,rfl⟩:=bU h1
 have hm:a.loc.isMemory=true:=by
  cases hl:a.loc<;>rw[hl]at hb<;>simp[kM]at hb<;>rfl
 obtain⟨b',r',g1,g2,g3⟩:=mq (he e af) h3 hm;rw[hb]at g1;cases g1;obtain⟨cl,s,y,hx⟩:=h.is (eA.ux hJ);have:fX w₁ _ cl:=⟨s,y,by rw[W _ cl ⟨s,y,hx⟩];exact hx⟩;exact ab.zy this g2;refine(h.kw.mono λj hj=>by rw[ag];exact hj).app λop ac=>.inr (.inr ?_);rw[ofEvents_g ac,ag];exact eA.P2 hl;obtain⟨h1,h2⟩:=h.fix b hb;refine⟨cY h1 Y.size,?_⟩;rw[<-h2];by_cases hx:∃r,mi.blk r=some b;obtain⟨r,hx⟩:=hx;exact Y.still r b hx (h.ff i mi hr r b hx hb);exact Y.old b h1 λr ax=>hx ⟨r,ax⟩;by_cases e:j=i;subst e;rw[cK,ad]at O;cases O;rcases Y.news r b am with x|x
 exact(ae.loose r b x).2 (h.ff j mi hr r b x hb);have:=(h.fix b hb).1;omega;rw[cL _ _ e]at O;exact h.ff j m' O r b am hb;by_cases e:j=i;subst e;rw[hr]at O;cases O;exact⟨j,dx,r,by rw[cK];exact ad,ae.blk _ _ hb⟩;exact⟨j,m',r,by rw[cL _ _ e];exact O,hb⟩;obtain⟨e,af,rfl⟩:=bU ac
 have hm:a.loc.isMemory=true:=by
  cases hl:a.loc<;>rw[hl]at hb<;>simp[kM]at hb<;>rfl
 obtain⟨b',r',g1,g2,g3⟩:=mq (he e af) ha hm;rw[hb]at g1;cases g1;exact .inr ⟨i,dx,r',by rw[cK];exact ad,g2⟩;obtain⟨e,af,rfl⟩:=bU ac
 have hm:a.loc.isMemory=true:=by
  cases hl:a.loc<;>rw[hl]at hb<;>simp[kM]at hb<;>rfl
 obtain⟨b',r',g1,g2,g3⟩:=mq (he e af) ha hm;rw[hb]at g1;cases g1;obtain⟨s,y,hx⟩:=ah;exact ab.zy (cl:=false) ⟨s,y,by rw[W _ false ⟨s,y,hx⟩];exact hx⟩ g2
theorem Co.RX{i:Nat}(h:Co P fC w0 Pd ρ m wl gs w t)(d:Nat)(hi:0<i)(ag:i<gs.size)(aa:At P (w.at d) t i g' ρ')(hr:ρ'.mO=(ρ i).mO)(hl:ρ'.live=(ρ i).live)(O:ρ'.rR=(ρ i).rR)(hc:ρ'.chan=(ρ i).chan)(hs:ρ'.sum=(ρ i).sum)
  (ac:gs'.size=gs.size) (ad:gs'[i]?=some g') (ae:∀j x,0<j->j≠i->gs'[j]?=some x->∃y,gs[j]?=some y/\(At P (w.at d) t j y (ρ j)->x=y)) :
  Co P fC w0 Pd (cM ρ i ρ') m wl gs' (w.at d) t:=by
 have key:∀{α:Type}(f:eA->α),f ρ'=f _->∀j,f (cM ρ i ρ' j)=f (ρ j):=λf hf j=>by
  by_cases e:j=i;subst e;rw[cK];exact hf;rw[cL _ _ e]
 have hrel:∀j y,0<j->gs[j]?=some y->At P (w.at d) t j y (ρ j):=by
  intro j y Y hy;have:=(h.at_ j y Y hy).rely (w₁:=w.at d) (u:=#[]) (λ_ _ _ _ _=>rfl) (λ_ _=>rfl) (cZ _) rfl (by simp);simpa using this
 refine⟨h.main.at d,λj x ab hx=>?_,λj Y=>?_,λj m' U=>h.d0 j m' (by rw[<-key _ hr];exact U),λj k m1 m2 W h1 h2=>h.dd j k m1 m2 W (by rw[<-key _ hr];exact h1) (by rw[<-key _ hr];exact h2),λj k J1 J2 W h1 h2=>h.cc j k J1 J2 W (by rw[<-key _ O];exact h1) (by rw[<-key _ O];exact h2),h.s0,λj m' U=>h.ss j m' (by rw[<-key _ hl];exact U),λj J hJ=>h.My j J (by rw[<-key _ hc];exact hJ),h.low,h.hears,h.kw.mono λj Y=>by rw[key _ hs];exact Y,h.clean,h.fix,h.f0,λj m' U=>h.ff j m' (by rw[<-key _ hr];exact U),λj J hJ=>h.cx j J (by rw[<-key _ O];exact hJ),h.sz,h.os,h.kn.same (key _ hr),h.pd.same (key _ O) rfl,h.len.same (key _ O)⟩;by_cases e:j=i;subst e;rw[ad]at hx;cases hx;rw[cK];exact aa;rw[cL _ _ e];obtain⟨y,hy,af⟩:=ae j x ab e hx;have:=hrel j y ab hy;rw[af this];exact this;rw[cL _ _ (by rcases Y with x|x<;>omega)];exact h.out j (by rw[<-ac];exact Y)
end
end
section
open Go.Conc
open Go.ConcN (upd upd_same upd_ne)
inductive iO(P:Program):eA->eA->Prop
 |quit {q}:iO P (.quit q) (.quit (q+1))|ended {h J m S q}:iO P (.ended h J m S q) (.ended h J m S (q+1))|close {J m S n m' S' q}:iO P (.ended false J m' S' q) (.act J m S n)|act {J m S n m' S' n'}:nB P J.Stop S' S->iO P (.act J m' S' n') (.act J m S n)|jk {J m S n m' S' n' v}:nB P J.Stop S' S->iO P (.jk J m' S' n' v) (.act J m S n)|start {J m S k}:iO P (.start J m S k) (.start J m S (k+1))|go {J m S k}:iO P (.act J m S 0) (.start J m S k)
section
variable {P:Program}
theorem G7(q:Nat):Acc (iO P) (.quit q):=by
 induction q with
 |zero=>exact .intro _ λy h=>by cases h
 |succ q O=>exact .intro _ λy h=>by cases h;exact O
theorem BX(O:Bool)(J:mJ)(m:Ren)(S:LS)(q:Nat):Acc (iO P) (.ended O J m S q):=by
 induction q with
 |zero=>exact .intro _ λy h=>by cases h
 |succ q U=>exact .intro _ λy h=>by cases h;exact U
theorem Ez(J:mJ)(m:Ren)(S:LS)(n:Nat)(v:Value):Acc (iO P) (.jk J m S n v):=.intro _ λy h=>by cases h
theorem DF{J:mJ}{S:LS}(h:Acc (nB P J.Stop) S):∀(m:Ren)(n:Nat),Acc (iO P) (.act J m S n):=by
 induction h with
 |intro S _ U=>
  intro m n;refine .intro _ λy W=>?_
  cases W with
  |close=>exact BX ..|act O=>exact U _ O ..|jk O=>exact Ez ..
theorem Ld{J:mJ}{S:LS}(h:Acc (nB P J.Stop) S)(m:Ren)(k:Nat):Acc (iO P) (.start J m S k):=by
 induction k with
 |zero=>exact .intro _ λy O=>by cases O;exact DF h ..
 |succ k U=>
  refine .intro _ λy O=>?_
  cases O with
  |start=>exact U|go=>exact DF h ..
theorem rb.TM{J:mJ}{m:Ren}{S:LS}:∀{k:Nat}{g:Goroutine},rb P J m S k g->∀{w:World},WR m S.w w->uY P S
 |0,_,h,w,O=>by
  obtain⟨fr,cs,d,es,_,_,U⟩:=h.2 w O
  exact⟨_,_,_,_,_,_,_,U⟩
 |k+1,_,h,w,O=>by
  obtain⟨g',d,es,_,_,U⟩:=h.2 w O;exact U.TM O
theorem At.acc{w:World}{t:b9}{i:Nat}{g:Goroutine}{ρ:eA}(h:At P w t i g ρ):Acc (iO P) ρ:=by
 cases ρ with
 |quit q=>exact G7 q|ended hd J m S q=>exact BX ..|act J m S n=>
  obtain⟨O,_,U⟩:=h;obtain⟨fr,cs,_,W⟩:=U.rS;exact DF (U.nu.acc O.blind ⟨_,_,_,_,_,_,_,W⟩) ..
 |jk J m S n v=>exact Ez ..|start J m S k=>
  obtain⟨O,_,_,Y,_,h6,h7⟩:=h;exact Ld (Y.acc O.blind (h7.TM h6)) ..
end
section
variable {P:Program} {fC:Nat->Prop} {w0:World} {Pd:Nat->Prop} {ρ:Nat->eA} {m:Ren} {wl:World} {gs gs':Array Goroutine} {w w₁:World} {t:b9}
theorem Co.acc(h:Co P fC w0 Pd ρ m wl gs w t):Acc (GX (iO P) gs.size) ρ:=by
 refine Oz _ _ λi hi=>?_;by_cases e:i=0;rw[h.out i (.inl e)];exact G7 0;exact(h.at_ i _ (by omega) (bn hi)).acc
theorem MO(i:Nat)(fn:b8)(pos:String)(c:Nat):de i fn pos #[⟨.obj c,false,true⟩,⟨.obj c,true,true⟩]=#[{g:=i,fn,pos,act:=.access ⟨.obj c,false,true⟩},{g:=i,fn,pos,act:=.close c}]:=by
 rw[cd];simp[ga]
theorem Co.close{i:Nat}{g':Goroutine}{J:mJ}{mi:Ren}{S:LS}{n s r:Nat}{fn:b8}{pos:String}(h:Co P fC w0 Pd ρ m wl gs w t)(hi:0<i)(aq:i<gs.size)(ac:ρ i=.act J mi S n)(ar:J.Stop S)(hn:n=J.L.length)(ao:WR mi S.w w)(hc:w.heap[J.c]?=some (.chan 0 #[] false s r false))(au:Lv P 2 g')
  (ag:w₁={w with heap:=w.heap.setIfInBounds J.c (.chan 0 #[] true s r false)}) (av:gs'.size=gs.size) (aw:gs'[i]?=some g')
  (ap:∀j x,0<j->j≠i->gs'[j]?=some x->∃y,gs[j]?=some y/\(At P w₁ (t++de i fn pos #[⟨.obj J.c,false,true⟩,⟨.obj J.c,true,true⟩]) j y (ρ j)->x=y)) :
  Co P fC w0 Pd (cM ρ i (.ended false J mi S 2)) m wl gs' w₁ (t++de i fn pos #[⟨.obj J.c,false,true⟩,⟨.obj J.c,true,true⟩]):=by
 subst ag;have ae:J.c<w.heap.size:=jE hc;have U:w.heap.size<=(w.heap.setIfInBounds J.c (.chan 0 #[] true s r false)).size:=by simp
 have ah:∃a b x s y t,w.heap[J.c]?=some (.chan a b x s y t):=⟨_,_,_,_,_,_,hc⟩
 have key:∀{α:Type}(f:eA->α),f (.ended false J mi S 2)=f (ρ i)->∀j,f (cM ρ i (.ended false J mi S 2) j)=f (ρ j):=λf hf j=>by
  by_cases e:j=i;subst e;rw[cK];exact hf;rw[cL _ _ e]
 have kr:=key eA.mO (by rw[ac];rfl);have kj:=key eA.rR (by rw[ac];rfl);have ks:=key eA.sum (by rw[ac,hn];rfl);have ad:(ρ i).rR=some J:=by rw[ac];rfl
 have ax:(ρ i).chan=some J:=by rw[ac];rfl
 have kl:∀j m',(cM ρ i (.ended false J mi S 2) j).live=some m'->j≠i/\(ρ j).live=some m':=λj m' hx=>by
  by_cases e:j=i;subst e;rw[cK]at hx;cases hx;rw[cL _ _ e]at hx;exact⟨e,hx⟩
 have kc:∀j J',(cM ρ i (.ended false J mi S 2) j).chan=some J'->j≠i/\(ρ j).chan=some J':=λj J' hx=>by
  by_cases e:j=i;subst e;rw[cK]at hx;cases hx;rw[cL _ _ e]at hx;exact⟨e,hx⟩
 have aa:=MO i fn pos J.c;generalize hu:de i fn pos #[⟨.obj J.c,false,true⟩,⟨.obj J.c,true,true⟩]=u at aa ap⊢;have ai:∀op∈u,op.g=i:=by rw[<-hu];exact λop O=>ofEvents_g O
 have Y:∀op∈u,∀a,op.act.touch?=some a->a=⟨.obj J.c,false,.atomic⟩:=by
  intro op O a ha;rw[aa]at O;simp only[cR,cN,cO,or_false]at O;rcases O with rfl|rfl
  simp only[gc,dg]at ha;exact ha.symm
  cases ha
 have af:∀j m' wl',ni t j m'->WR m' wl' w->ni (t++u) j m':=by
  intro j m' wl' hs hw p a b rr ha hb hr ay;rcases dZ ha with⟨_,h1⟩|⟨op,h1,_,h3⟩
  exact(hs p a b rr h1 hb hr ay).app u;have:=Y op h1 a h3;subst this;cases hb;exact absurd hr (hw.zy ⟨s,r,hc⟩)
 refine⟨h.main.rely (k9 h.main ah) U rfl,λj x aj hx=>?_,λj hj=>?_,λj m' W=>h.d0 j m' (by rw[<-kr];exact W),λj k m1 m2 ak h1 h2=>h.dd j k m1 m2 ak (by rw[<-kr];exact h1) (by rw[<-kr];exact h2),λj k J1 J2 ak h1 h2=>h.cc j k J1 J2 ak (by rw[<-kj];exact h1) (by rw[<-kj];exact h2),af 0 m wl h.s0 h.main,λj m' W=>?_,λj J' ab p a ha hb=>?_,λp a b ha hb=>?_,h.hears.append λop O=>?_,?_,λsaid=>?_,λb hb=>?_,h.f0,λj m' W=>h.ff j m' (by rw[<-kr];exact W),λj J' ab=>h.cx j J' (by rw[<-kj];exact ab),da h.sz U,h.os,h.kn.app (λj m' r b W hb=>⟨j,m',r,by rw[kr];exact W,hb⟩) (λop O a b ha hb az=>?_),h.pd.app kj (λc al _=>bl ((h.pd c al).2.2.1 i J ad)) (λop O a c ha al _ hb=>?_),h.len.same kj⟩;by_cases e:j=i;subst e;rw[aw]at hx;cases hx;rw[cK];have am:=h.at_ j gs[j] aj (bn aq);rw[ac]at am;refine⟨au,am.2.2.mO,⟨ar,am.1⟩,ao.rely (k9 ao ah) U rfl,⟨s,r,by simp[ae]⟩,t.size+1,{g:=j,fn,pos,act:=.close J.c},by rw[aa];simp,rfl,rfl,λp a op ha O hg=>?_⟩;have:p<(t++u).size:=cr O;rw[aa]at this;simp at this;omega;rw[cL _ _ e];obtain⟨y,hy,a0⟩:=ap j x aj e hx
 have:At P {w with heap:=w.heap.setIfInBounds J.c (.chan 0 #[] true s r false)} (t++u) j y (ρ j):=by
  refine(h.at_ j y aj hy).rely (λm' W=>?_) (λJ' ab=>?_) U rfl λop O hg=>absurd (ai op O) (by rw[hg];exact e);obtain⟨wl',an⟩:=h.wr W;exact k9 an ah;exact bl (h.cc i j J J' (g8 e) ad ab)
 rw[a0 this];exact this;rw[cL _ _ (by rcases hj with x|x<;>omega)];exact h.out j (by rw[<-av];exact hj);obtain⟨e,W⟩:=kl j m' W;obtain⟨wl',an⟩:=h.wr (eA.nN W);exact af j m' wl' (h.ss j m' W) an;obtain⟨e,ab⟩:=kc j J' ab;rcases dZ ha with⟨_,h1⟩|⟨op,h1,_,h3⟩
 exact h.My j J' ab p a h1 hb;have:=Y op h1 a h3;subst this;simp only[kM,dg]at hb;exact h.cc i j J J' (g8 e) ad (eA.ux ab) hb;rcases dZ ha with⟨_,h1⟩|⟨op,h1,_,h3⟩
 exact cY (h.low p a b h1 hb) U;have:=Y op h1 a h3;subst this;simp only[kM,dg]at hb;subst hb;exact cY ae U;rw[aa]at O;simp only[cR,cN,cO,or_false]at O;rcases O with rfl|rfl<;>simp
 refine(h.kw.mono λj hj=>by rw[ks];exact hj).app λop O=>.inr (.inr ?_);rw[ai op O,ks,ac];simp[eA.sum];refine ck (h.clean said) ai λq a ha op O b hb a3=>?_;have:=Y op O b hb;subst this;exact absurd (by rw[a3.1];rfl) (h.My i J ax q a ha);obtain⟨h1,h2⟩:=h.fix b hb;refine⟨cY h1 U,?_⟩;rw[<-h2];exact bl (by rintro rfl;exact h.cx i J ad hb);have:=Y op O a ha;subst this;cases hb;exact absurd az (h.cx i J ad);have:=Y op O a ha;subst this;simp only[kM,dg]at hb;exact(h.pd c al).2.2.1 i J ad hb
end
end
section
open Go.Conc
open Go.ConcN (upd upd_same upd_ne)
variable {a g:Goroutine} {r:eA} {u:b9}
section
variable {P:Program} {fC:Nat->Prop} {w0:World} {Pd:Nat->Prop} {ρ:Nat->eA} {m:Ren} {wl:World} {gs gs':Array Goroutine} {w w₁:World} {t:b9} {sl:Option (Nat×Nat)}
theorem At.offers{i:Nat}{ρ:eA}(h:At P w t i g ρ)(c:Nat):cb g c false=[]:=by
 cases ρ with
 |quit q=>exact bV (by rcases Lv.status h with x|x<;>rw[x]<;>simp) ..|ended O J m S q=>exact bV (by rcases h.1.status with x|x<;>rw[x]<;>simp) ..|act J m S n=>
  obtain⟨_,_,h⟩:=h;obtain⟨fr,cs,rfl,_⟩:=h.rS;exact bV (by simp[G]) ..
 |jk J m S n v=>
  obtain⟨_,_,g0,z,rfl,_⟩:=h;exact offersAt_parked_send' ..
 |start J m S k=>exact bV (by rw[h.2.2.2.2.2.2.status];simp) ..
theorem rO{n i:Nat}(hi:i<n)(h:iO P r (ρ i)):GX (iO P) n (cM ρ i r) ρ:=⟨i,hi,by rw[cK];exact h,λj O=>cL _ _ O⟩
theorem rJ{i:Nat}(h:r.sum=(ρ i).sum)(j:Nat):(cM ρ i r j).sum=(ρ j).sum:=by
 by_cases e:j=i;subst e;rw[cK];exact h;rw[cL _ _ e]
theorem pe{i:Nat}{g':Goroutine}(w₁:World):∀j x,0<j->j≠i->((gs.map (woken P g g' w₁)).setIfInBounds i g')[j]?=some x->∃y,gs[j]?=some y/\(At P w₁ u j y (ρ j)->x=y):=by
 intro j x _ O U;rw[bl (g8 O),bw]at U;obtain⟨y,W,rfl⟩:=cH.1 U;exact⟨y,W,λh=>h.woken g g'⟩
theorem yQ{i:Nat}{g':Goroutine}(w₁:World):∀j x,0<j->j≠i->(gs.setIfInBounds i g')[j]?=some x->∃y,gs[j]?=some y/\(At P w₁ u j y (ρ j)->x=y):=by
 intro j x _ O U;rw[bl (g8 O)]at U;exact⟨x,U,λ_=>rfl⟩
theorem JF{i:Nat}{g':Goroutine}(hi:0<i)(O:gs[0]?=some a):((gs.map (woken P g g' w₁)).setIfInBounds i g')[0]?=some (woken P g g' w₁ a):=by
 rw[bl (by omega),bw,O];rfl
theorem ND(g g' a:Goroutine)(w:World):woken P g g' w a=a\/woken P g g' w a=a.again w:=by
 unfold woken;split;exact .inr rfl;exact .inl rfl
theorem Co.other{i:Nat}(h:Co P fC w0 Pd ρ m wl gs w t)(hi:0<i)(hg:gs[i]?=some g)(ad:g.status=.running)(h0:gs[0]?=some a)(an:∀J mi S n g₁ cs w₁ es,ρ i=.act J mi S n->b5 P false g w=.comm g₁ cs true .send w₁ es->cb a J.c false=[]) :
  ∃gs' w' ops ρ',bR P (bZ gs w sl) i=(.next (bZ gs' w' sl),ops)/\Co P fC w0 Pd ρ' m wl gs' w' (t++ops)/\GX (iO P) gs.size ρ' ρ/\(∀j,(ρ' j).sum=(ρ j).sum)/\gs'.size=gs.size/\((gs'[0]?=some a/\∀j,(ρ' j).chan=(ρ j).chan)\/gs'[0]?=some (a.again w'))/\(∀J mi S n v,ρ' i=.jk J mi S n v->cb a J.c false=[])/\(∀j,j≠i->ρ' j=ρ j):=by
 have U:i<gs.size:=(bm.1 hg).1;have ae:(i==0)=false:=by simp;omega
 have Y:=h.at_ i g hi hg
 have lv:∀q,Lv P q g->∃q' g',q=q'+1/\(∀w,b5 P false g w=.go g' w #[])/\Lv P q' g':=by
  intro q hq
  cases q with
  |zero=>rw[show g.status=.finished from hq]at ad;cases ad
  |succ q=>
   rcases hq with x|⟨_,g',x,y⟩
   rw[x]at ad;cases ad;exact⟨q,g',rfl,x,y⟩
 have aw:w.at w.drawn=w:=rfl
 have ac:∀r:eA,r.chan=(ρ i).chan->∀j,(cM ρ i r j).chan=(ρ j).chan:=λr hr j=>by
  by_cases e:j=i;subst e;rw[cK];exact hr;rw[cL _ _ e]
 have zero:∀(g':Goroutine)(w₁:World)(r:eA),r.chan=(ρ i).chan->((((gs.map (woken P g g' w₁)).setIfInBounds i g')[0]?=some a/\∀j,(cM ρ i r j).chan=(ρ j).chan)\/((gs.map (woken P g g' w₁)).setIfInBounds i g')[0]?=some (a.again w₁)):=by
  intro g' w₁ r hr;rw[JF hi h0];rcases ND (P:=P) g g' a w₁ with x|x
  exact .inl ⟨by rw[x],ac r hr⟩;exact .inr (by rw[x])
 cases O:ρ i with
 |quit q=>
  rw[O]at Y;obtain⟨q',g',rfl,hs,hq⟩:=lv q Y;have W:=bW (P:=P) (sl:=sl) (i:=i) hg (by rw[ae];exact hs w);have e0:de i g.frame.fn g.frame.place #[]=#[]:=by rw[cd];simp
  rw[e0]at W;refine⟨_,w,_,cM ρ i (.quit q'),W,?_,rO U (by rw[O];exact .quit),rJ (by rw[O];rfl),by simp,zero g' w _ (by rw[O];rfl),λ_ _ _ _ _ x=>(by rw[cK]at x;cases x),λj hj=>cL _ _ hj⟩;rw[bx];exact h.RX (gs':=(gs.map (woken P g g' w)).setIfInBounds i g') w.drawn hi U (ρ':=.quit q') (g':=g') hq (by rw[O];rfl) (by rw[O];rfl) (by rw[O];rfl) (by rw[O];rfl) (by rw[O];rfl) (by simp) (by simp[U]) (pe (w.at w.drawn))
 |ended hd J mi S q=>
  rw[O]at Y;obtain⟨q',g',rfl,hs,hq⟩:=lv q Y.1;have W:=bW (P:=P) (sl:=sl) (i:=i) hg (by rw[ae];exact hs w);have e0:de i g.frame.fn g.frame.place #[]=#[]:=by rw[cd];simp
  rw[e0]at W;refine⟨_,w,_,cM ρ i (.ended hd J mi S q'),W,?_,rO U (by rw[O];exact .ended),rJ (by rw[O];cases hd<;>rfl),by simp,zero g' w _ (by rw[O];rfl),λ_ _ _ _ _ x=>(by rw[cK]at x;cases x),λj hj=>cL _ _ hj⟩;rw[bx];exact h.RX (gs':=(gs.map (woken P g g' w)).setIfInBounds i g') w.drawn hi U (ρ':=.ended hd J mi S q') (g':=g') ⟨hq,Y.2⟩ (by rw[O];rfl) (by rw[O];rfl) (by rw[O];rfl) (by rw[O];rfl) (by rw[O];cases hd<;>rfl) (by simp) (by simp[U]) (pe (w.at w.drawn))
 |jk J mi S n v=>
  rw[O]at Y;obtain⟨_,_,g0,z,rfl,_⟩:=Y;cases ad
 |start J mi S k=>
  rw[O]at Y;obtain⟨h1,h2,h3,h4,h5,h6,h7⟩:=Y;have aa:(ρ i).live=some mi:=by rw[O];rfl
  have step:∀g' d es(r:eA),b5 P false g w=.go g' (w.at d) es->(∀e∈es,oG mi e)->At P (w.at d) (t++de i g.frame.fn g.frame.place es) i g' r->r.live=some mi->r.rR=some J->r.chan=some J->r.sum=some (J,0)->iO P r (.start J mi S k)->
    ∃gs' w' ops ρ',bR P (bZ gs w sl) i=(.next (bZ gs' w' sl),ops)/\Co P fC w0 Pd ρ' m wl gs' w' (t++ops)/\GX (iO P) gs.size ρ' ρ/\(∀j,(ρ' j).sum=(ρ j).sum)/\gs'.size=gs.size/\((gs'[0]?=some a/\∀j,(ρ' j).chan=(ρ j).chan)\/gs'[0]?=some (a.again w'))/\(∀J mi S n v,ρ' i=.jk J mi S n v->cb a J.c false=[])/\(∀j,j≠i->ρ' j=ρ j):=by
   intro g' d es r hs he hr e1 e2 e3 e4 aj;have W:=bW (P:=P) (sl:=sl) (i:=i) hg (by rw[ae];exact hs);exact⟨_,_,_,cM ρ i r,W,h.step (gs':=(gs.map (woken P g g' (w.at d))).setIfInBounds i g') hi U aa (Ren.Le.refl mi) (fA.at mi w d) he (h6.at d) hr e1 (by rw[O];exact e2) (by rw[O];exact e3) (by rw[O];exact e4) (by simp) (by simp[U]) (pe _),rO U (by rw[O];exact aj),rJ (by rw[O];exact e4),by simp,zero g' _ r (by rw[O];exact e3),λ_ _ _ _ _ x=>(by rw[cK]at x;subst x;cases aj),λj hj=>cL _ _ hj⟩
  cases k with
  |zero=>
   obtain⟨fr,cs,d,es,hs,he,ab⟩:=h7.2 w h6;exact step _ d es (.act J mi S 0) hs he ⟨h1,h2,h3,h4,⟨fr,cs,rfl,ab⟩,[],h5,rfl⟩ rfl rfl rfl rfl .go
  |succ k=>
   obtain⟨g',d,es,hs,he,af⟩:=h7.2 w h6;exact step g' d es (.start J mi S k) hs he ⟨h1,h2,h3,h4,h5,h6.at d,af⟩ rfl rfl rfl rfl .start
 |act J mi S n=>
  rw[O]at Y;obtain⟨h1,⟨s,r,hc⟩,h3⟩:=Y;have aa:(ρ i).live=some mi:=by rw[O];rfl
  obtain⟨ax,ao⟩:=h.wr (eA.nN aa);by_cases af:J.Stop S;obtain⟨hn,fr,ps,a',ty,cs,rfl,hm,hd,hq,ar⟩:=h3.stands h1 af;obtain⟨fr',cs',e,ab⟩:=h3.rS;have hs:=closing (P:=P) (ps:=ps) (w:=w) hm hd hq hc;have W:=bW (P:=P) (sl:=sl) (i:=i) hg (by rw[ae];exact hs)
  have au:∀o,woken P (G fr [ps]) (G {fr with defers:=[]} [ps]) {w with heap:=w.heap.setIfInBounds J.c (.chan 0 #[] true s r false)} o=o.again {w with heap:=w.heap.setIfInBounds J.c (.chan 0 #[] true s r false)}:=by
   intro o;unfold woken;rw[if_pos];simp[mayWake,G,hm]
  refine⟨_,_,_,cM ρ i (.ended false J mi S 2),W,?_,rO U (by rw[O];exact .close),rJ (by rw[O,hn];rfl),by simp,.inr ?_,λ_ _ _ _ _ x=>(by rw[cK]at x;cases x),λj hj=>cL _ _ hj⟩;exact h.close (gs':=(gs.map (woken P (G fr [ps]) (G {fr with defers:=[]} [ps]) {w with heap:=w.heap.setIfInBounds J.c (.chan 0 #[] true s r false)})).setIfInBounds i (G {fr with defers:=[]} [ps])) hi U O af hn ab.world hc ar rfl (by simp) (by simp[U]) (pe _);rw[JF hi h0,au];have ap:=h3.AV h1 af;generalize ai:b5 P false g w=sg at ap
  cases ap with
  |@go S' dx g₁ w₁ es al am ak hk he=>
   have W:=bW (P:=P) (sl:=sl) (i:=i) hg (by rw[ae];exact ai);obtain⟨fr',cs',e,ab⟩:=ak.rS;exact⟨_,_,_,cM ρ i (.act J dx S' n),W,h.step (gs':=(gs.map (woken P g g₁ w₁)).setIfInBounds i g₁) hi U aa am hk he ab.world ⟨h1,⟨s,r,hk.chan ao hc⟩,ak⟩ rfl (by rw[O];rfl) (by rw[O];rfl) (by rw[O];rfl) (by simp) (by simp[U]) (pe _),rO U (by rw[O];exact .act al),rJ (by rw[O];rfl),by simp,zero g₁ _ _ (by rw[O];rfl),λ_ _ _ _ _ x=>(by rw[cK]at x;cases x),λj hj=>cL _ _ hj⟩
  |@send S' dx g₁ w₁ es v' z' al am ag hk he=>
   have ah:=hk.chan ao hc
   have hp:bI (gs.setIfInBounds i ph) J.c false=[]:=by
    refine c9 λj x hx=>?_;rcases cg gs i j x hx with⟨_,rfl⟩|⟨ay,hx⟩
    exact cj _ _;by_cases hj:j=0;subst hj;rw[h0]at hx;cases hx;exact an J mi S n _ _ _ _ O ai;exact(h.at_ j x (by omega) hx).offers J.c
   have W:=cB (P:=P) (sl:=sl) (i:=i) hg (by rw[ae];exact ai) (by
    intro cc aq;simp only[cR,cN,cO,or_false]at aq;subst aq
    exact ways_send_none ah (by simp) hp)
   obtain⟨v0,fr',cs',e,ab⟩:=ag.rS;obtain⟨f0,az,_,_,_,_,_,_,_,av,_⟩:=ab.rS;refine⟨_,_,_,cM ρ i (.jk J dx S' n v'),W,h.step (gs':=gs.setIfInBounds i _) hi U aa am hk he av ⟨h1,⟨s,r,ah⟩,g₁,z',rfl,ag⟩ rfl (by rw[O];rfl) (by rw[O];rfl) (by rw[O];rfl) (by simp) (by simp[U]) (yQ _),rO U (by rw[O];exact .jk al),rJ (by rw[O];rfl),by simp,.inl ⟨?_,ac _ (by rw[O];rfl)⟩,λ_ _ _ _ _ x=>(by rw[cK]at x;cases x;exact an J mi S n _ _ _ _ O ai),λj hj=>cL _ _ hj⟩;rw[bl (by omega)];exact h0
end
end
section
open Go.Conc
open Go.ConcN (upd upd_same upd_ne)
variable {a:Goroutine} {J:mJ} {S:LS} {mi:Ren}
structure jN(P:Program) where
 Up:Machine->b9->Prop
 Fin:Machine->Stepped×Array MemOp->b9->Prop
 back:∀M t,Fin M (bQ P M) t->Up M t
 next:∀M M' ops t,Up M' (t++ops)->Fin M (.next M',ops) t
theorem rj{u:List MemOp}(U:∀op∈u,op.act.touch?=none):∀{t:b9}{said:Bool},¬bT said t->¬bT said (t++u.toArray):=by
 induction u with
 |nil=>simpa using h|cons x u W=>
  intro t said h;have:t++(x::u).toArray=(t++#[x])++u.toArray:=by simp
  rw[this];refine W (λop O=>U op (by simp[O])) ?_;refine ck (g:=x.g) h (λop O=>by simp at O;rw[O]) λi a _ op O b hb _=>?_;simp at O;subst O;rw[U op (by simp)]at hb;cases hb
section
variable {P:Program} {fC:Nat->Prop} {w0:World} {Pd:Nat->Prop} {ρ:Nat->eA} {m:Ren} {wl:World} {gs gs':Array Goroutine} {w w₁:World} {t:b9} {sl:Option (Nat×Nat)}
theorem Co.at(h:Co P fC w0 Pd ρ m wl gs w t)(d:Nat):Co P fC w0 Pd ρ m wl gs (w.at d) t:=by
 refine⟨h.main.at d,λi g hi O=>?_,h.out,h.d0,h.dd,h.cc,h.s0,h.ss,h.My,h.low,h.hears,h.kw,h.clean,h.fix,h.f0,h.ff,h.cx,h.sz,h.os,h.kn,h.pd.same (λ_=>rfl) rfl,h.len⟩;have:=(h.at_ i g hi O).rely (w₁:=w.at d) (u:=#[]) (λ_ _ _ _ _=>rfl) (λ_ _=>rfl) (cZ _) rfl (by simp);simpa using this
theorem Co.awake(h:Co P fC w0 Pd ρ m wl gs w t)(U:gs[0]?=some a)(W:a.status=.running\/a.status=.blocked\/a.status=.finished):∀g∈gs,cD g:=by
 intro g Y;obtain⟨i,hi,rfl⟩:=bp.1 Y;rcases db i with rfl|O
 have:=by simpa[bn hi]using U
 rw[this];exact awake_of W;exact awake_of (h.at_ i _ O (bn hi)).status
theorem turn{Z:jN P}{K:Nat->Option (mJ×Nat)}{N:Nat}(O:a.status=.running)
  (hm:∀ρ gs w sl U d t,Co P fC w0 Pd ρ m wl gs (w.at d) t->(∀j,(ρ j).sum=K j)->gs[0]?=some a->gs.size=N->Z.Fin (bZ gs w sl) (bR P (bZ gs (w.at d) U) 0) t) :
  ∀ρ gs w sl t,Co P fC w0 Pd ρ m wl gs w t->(∀j,(ρ j).sum=K j)->gs[0]?=some a->gs.size=N->Z.Up (bZ gs w sl) t:=by
 intro ρ gs w sl t h hK Y hN;have W:=h.acc;rw[hN]at W;revert hK gs w sl t;induction W with
 |intro ρ _ ih=>
  intro gs w sl t h hK Y hN;obtain⟨i,g,d,U,hi,hg,ac⟩:=ct (P:=P) (w:=w) (sl:=sl) (h.awake Y (.inl O)) ⟨0,a,Y,O⟩;refine Z.back _ _ ?_;rw[ac];rcases db i with rfl|aa
  exact hm ρ gs w sl U d t (h.at d) hK Y hN;obtain⟨gs',w',ops,ρ',hr,ad,ae,ab,af,hz,_,_⟩:=(h.at d).other (sl:=U) aa hi hg Y λJ mi S n _ _ _ _ _ _=>bV (by rw[O];simp) ..;rw[hr];refine Z.next _ _ _ _ (ih ρ' (hN▸ae) gs' w' U _ ad (λj=>(ab j).trans (hK j)) ?_ (af.trans hN));rcases hz with⟨x,_⟩|x
  exact x;rw[x,cz _ (.inl O)]
theorem Co.T5{i:Nat}{g₁:Goroutine}{n s r s' r':Nat}{v z:Value}{u:List MemOp}(h:Co P fC w0 Pd ρ m wl gs w t)(hi:0<i)(ad:ρ i=.jk J mi S n v)(al:gs[i]?=some (parked g₁ #[cf J.c v z] .send))(hc:w.heap[J.c]?=some (.chan 0 #[] false s r false))
  (ah:w₁={w with heap:=w.heap.setIfInBounds J.c (.chan 0 #[] false s' r' false)}) (hu:∀op∈u,op.act.touch?=none) (au:∀op∈u,op.act≠.mark .disable/\op.act≠.mark .enable)
  (av:gs'.size=gs.size) (am:gs'[i]?=some (bX g₁ hU)) (aw:∀j,0<j->j≠i->gs'[j]?=gs[j]?) :
  ∃ab,Co P fC w0 Pd (cM ρ i (.act J ab S (n+1))) m wl gs' w₁ (t++u.toArray):=by
 subst ah;have a5:i<gs.size:=(bm.1 al).1;have an:J.c<w.heap.size:=jE hc;have W:w.heap.size<=(w.heap.setIfInBounds J.c (.chan 0 #[] false s' r' false)).size:=by simp
 have ai:∃a b x s y t,w.heap[J.c]?=some (.chan a b x s y t):=⟨_,_,_,_,_,_,hc⟩;have ao:=h.at_ i _ hi al;rw[ad]at ao;obtain⟨ax,_,g0,z0,eg,ap⟩:=ao
 have e0:g0=g₁\/bX g0 hU=bX g₁ hU:=by
  obtain⟨v0,fr',cs',e',_⟩:=ap.rS;subst e';refine .inr ?_;have:=congrArg (λg:Goroutine=>bX g hU) eg;exact this.symm
 have af:bX g0 hU=bX g₁ hU:=e0.elim (λe=>by rw[e]) id;obtain⟨ab,a6,hb,hl,ac⟩:=ap.done;have aj:(ρ i).rR=some J:=by rw[ad];rfl
 have aq:(ρ i).mO=some mi:=by rw[ad];rfl
 refine⟨ab,?_⟩
 have kj:∀j,(cM ρ i (.act J ab S (n+1)) j).rR=(ρ j).rR:=λj=>by
  by_cases e:j=i;subst e;rw[cK,ad];rfl;rw[cL _ _ e]
 have kc:∀j,(cM ρ i (.act J ab S (n+1)) j).chan=(ρ j).chan:=λj=>by
  by_cases e:j=i;subst e;rw[cK,ad];rfl;rw[cL _ _ e]
 have kr:∀j m',(cM ρ i (.act J ab S (n+1)) j).mO=some m'->∃Y,(ρ j).mO=some Y/\m'.blk=Y.blk/\m'.loose=Y.loose:=λj m' hx=>by
  by_cases e:j=i;subst e;rw[cK]at hx;cases hx;exact⟨mi,aq,hb,hl⟩;rw[cL _ _ e]at hx;exact⟨m',hx,rfl,rfl⟩
 have kl:∀j m',(cM ρ i (.act J ab S (n+1)) j).live=some m'->∃Y,(ρ j).live=some Y/\m'.blk=Y.blk/\m'.loose=Y.loose:=λj m' hx=>by
  by_cases e:j=i;subst e;rw[cK]at hx;cases hx;exact⟨mi,by rw[ad];rfl,hb,hl⟩;rw[cL _ _ e]at hx;exact⟨m',hx,rfl,rfl⟩
 have U:∀op∈u.toArray,op∈u:=λop O=>by simpa using O
 refine⟨h.main.rely (k9 h.main ai) W rfl,λj x ar hx=>?_,λj hj=>?_,λj m' aa=>?_,λj k m1 m2 ak h1 h2=>?_,λj k J1 J2 ak h1 h2=>h.cc j k J1 J2 ak (by rw[<-kj];exact h1) (by rw[<-kj];exact h2),h.s0.mute λop O=>hu op (U op O),λj m' aa=>?_,λj J' ae p a ha hb=>?_,λp a b ha hb=>?_,h.hears.append λop O=>au op (U op O),?_,λsaid=>rj hu (h.clean said),λb hb=>?_,h.f0,λj m' aa r b hr hb=>?_,λj J' ae=>h.cx j J' (by rw[<-kj];exact ae),da h.sz W,h.os,h.kn.app (λj m' r b aa hx=>?_) (λop O a b ha _ _=>by rw[hu op (U op O)]at ha;cases ha),h.pd.app kj (λc ay _=>bl ((h.pd c ay).2.2.1 i J aj)) (λop O a c ha _ _=>by rw[hu op (U op O)]at ha;cases ha),h.len.same kj⟩;by_cases e:j=i;subst e;rw[am]at hx;cases hx;rw[cK,<-af];obtain⟨fr,cs,e,ag⟩:=ac.rS;exact⟨ax,⟨s',r',by simp[an]⟩,ac.mO,ac.nu,⟨fr,cs,e,ag.rely (k9 ag.world ai) W rfl⟩,ac.gI⟩;rw[cL _ _ e];rw[aw j ar e]at hx;refine(h.at_ j x ar hx).rely (λm' aa=>?_) (λJ' ae=>?_) W rfl λop O _=>hu op (U op O);obtain⟨wl',az⟩:=h.wr aa;exact k9 az ai;exact bl (h.cc i j J J' (g8 e) aj ae);rw[cL _ _ (by rintro rfl;rcases hj with x|x<;>omega)];exact h.out j (by rw[<-av];exact hj);obtain⟨Y,h1,h2,h3⟩:=kr j m' aa;have:=h.d0 j Y h1;unfold nS at this⊢;rw[h2,h3];exact this;obtain⟨a0,a1,a2,a3⟩:=kr j m1 h1;obtain⟨a4,b1,b2,b3⟩:=kr k m2 h2;have:=h.dd j k a0 a4 ak a1 b1;unfold nS at this⊢;rw[a2,a3,b2,b3];exact this;obtain⟨Y,h1,h2,h3⟩:=kl j m' aa;have:=(h.ss j Y h1).mute (u:=u.toArray) λop O=>hu op (U op O);unfold ni at this⊢;rw[h2,h3];exact this;rw[kc]at ae;rcases dZ ha with⟨_,h1⟩|⟨op,h1,_,h3⟩
 exact h.My j J' ae p a h1 hb;rw[hu op (U op h1)]at h3;cases h3;rcases dZ ha with⟨_,h1⟩|⟨op,h1,_,h3⟩
 exact cY (h.low p a b h1 hb) W;rw[hu op (U op h1)]at h3;cases h3;refine(h.kw.mono λj hj=>?_).app λop O=>.inl (hu op (U op O));by_cases e:j=i;subst e;rw[cK];simp[eA.sum];rw[cL _ _ e];exact hj;obtain⟨h1,h2⟩:=h.fix b hb;refine⟨cY h1 W,?_⟩;rw[<-h2];exact bl (by rintro rfl;exact h.cx i J aj hb);obtain⟨Y,h1,h2,h3⟩:=kr j m' aa;rw[h2]at hr;rw[h3];exact h.ff j Y h1 r b hr hb;by_cases e:j=i;subst e;rw[aq]at aa;cases aa;exact⟨j,ab,r,by rw[cK];rfl,by rw[hb];exact hx⟩;exact⟨j,m',r,by rw[cL _ _ e];exact aa,hx⟩
theorem Co.hear{i:Nat}{q:Nat}{fn:b8}{pos:String}(h:Co P fC w0 Pd ρ m wl gs w t)(hi:0<i)(U:ρ i=.ended false J mi S q)(ae:gs'.size=gs.size)(af:∀j,0<j->gs'[j]?=gs[j]?) :
  Co P fC w0 Pd (cM ρ i (.ended true J mi S q)) m wl gs' w (t++#[{g:=0,fn,pos,act:=.recvClosed J.c}]):=by
 have hu:∀op∈(#[{g:=0,fn,pos,act:=.recvClosed J.c}]:Array MemOp),op.act.touch?=none:=by
  intro op O;simp at O;subst O;rfl
 have key:∀{α:Type}(f:eA->α),f (.ended true J mi S q)=f (ρ i)->∀j,f (cM ρ i (.ended true J mi S q) j)=f (ρ j):=λf hf j=>by
  by_cases e:j=i;subst e;rw[cK];exact hf;rw[cL _ _ e]
 have kr:=key eA.mO (by rw[U];rfl);have kj:=key eA.rR (by rw[U];rfl);have kl:=key eA.live (by rw[U];rfl);have kc:=key eA.chan (by rw[U];rfl);obtain⟨gi,_,ac,ag⟩:=h.get (i:=i) (by rw[U];simp);have ah:i<gs.size:=(bm.1 ac).1;rw[U]at ag
 have hh:lu (t++#[{g:=0,fn,pos,act:=.recvClosed J.c}]):=h.hears.append λop O=>by
  simp at O;subst O;simp
 have hrel:=λj x hj hx=>(h.at_ j x hj hx).rely (λ_ _ _ _ _=>rfl) (λ_ _=>rfl) (cZ _) rfl λop O _=>hu op O
 refine⟨h.main,λj x ad hx=>?_,λj hj=>?_,λj m' W=>h.d0 j m' (by rw[<-kr];exact W),λj k m1 m2 ab Y h2=>h.dd j k m1 m2 ab (by rw[<-kr];exact Y) (by rw[<-kr];exact h2),λj k J1 J2 ab Y h2=>h.cc j k J1 J2 ab (by rw[<-kj];exact Y) (by rw[<-kj];exact h2),h.s0.mute hu,λj m' W=>(h.ss j m' (by rw[<-kl];exact W)).mute hu,λj J' aa p a ha hb=>?_,λp a b ha hb=>?_,hh,?_,λsaid=>by
  have:=rj (u:=[{g:=0,fn,pos,act:=.recvClosed _}]) (by simpa using hu) (h.clean said)
  simpa using this,h.fix,h.f0,λj m' W=>h.ff j m' (by rw[<-kr];exact W),λj J' aa=>h.cx j J' (by rw[<-kj];exact aa),h.sz,h.os,h.kn.app (λj m' r b W hx=>⟨j,m',r,by rw[kr];exact W,hx⟩) (λop O a b ha _ _=>by rw[hu op O]at ha;cases ha),h.pd.app kj (λ_ _ _=>rfl) (λop O a c ha _ _=>by rw[hu op O]at ha;cases ha),h.len.same kj⟩
 rw[af j ad]at hx;have:=hrel j x ad hx;by_cases e:j=i;subst e;rw[cK];rw[U]at this;exact this;rw[cL _ _ e];exact this;rw[cL _ _ (by rcases hj with x|x<;>omega)];exact h.out j (by rw[<-ae];exact hj);rw[kc]at aa;rcases dZ ha with⟨_,Y⟩|⟨op,Y,_,h3⟩
 exact h.My j J' aa p a Y hb;rw[hu op Y]at h3;cases h3;rcases dZ ha with⟨_,Y⟩|⟨op,Y,_,h3⟩
 exact h.low p a b Y hb;rw[hu op Y]at h3;cases h3;obtain⟨_,_,_,_,_,pc,y,g1,g2,g3,g4⟩:=hrel i gi (by omega) ac |> λx=>by rw[U]at x;exact x
 have hj:=(h.kw.app (u:=#[{g:=0,fn,pos,act:=.recvClosed _}]) λop O=>.inl (hu op O)).join hh (j:=i) (r:={g:=0,fn,pos,act:=.recvClosed _}) (pr:=t.size) g1 g2 g3 (by simp) rfl rfl g4;refine hj.mono λj hx=>?_;rw[cL _ _ hx.2];exact hx.1
end
end
section
open Go.Conc
open Go.ConcN (upd upd_same upd_ne)
variable {J:mJ} {c n:Nat} {r:eA}
structure vO(P:Program)(a:Goroutine)(cases:Array CommCase)(chans:Nat->Option Nat)(K:Nat->Option (mJ×Nat)):Prop where
 run:a.status=.running
 step:∀w,b5 P true a w=.comm a cases true .select w #[]
 Uf:∀w,b5 P true {parked a cases .select with status:=.running} w=.comm a cases true .select w #[]
 cs:∀(k:Nat)cc,cases[k]?=some cc->∃z,cc=⟨.chan (chans k),none,z⟩
 U7:∀k k' c,k<cases.size->k'<cases.size->chans k=some c->chans k'=some c->k=k'
 own:∀k c,k<cases.size->chans k=some c->∃i J n,K i=some (J,n)/\J.c=c
 some_:∃k c,k<cases.size/\chans k=some c
 flat:∀i J n,K i=some (J,n)->∀v∈J.L,∀(m:Ren)v',VR m v v'->v'=v
section
variable {P:Program} {fC:Nat->Prop} {w0:World} {Pd:Nat->Prop} {ρ:Nat->eA} {m:Ren} {wl:World} {gs gs':Array Goroutine} {w w₁:World} {t:b9} {sl:Option (Nat×Nat)} {a:Goroutine} {cases:Array CommCase} {chans:Nat->Option Nat} {K:Nat->Option (mJ×Nat)}
theorem vO.get(h:vO P a cases chans K){k:Nat}(O:k<cases.size):∃z,cases[k]?=some ⟨.chan (chans k),none,z⟩:=by
 obtain⟨z,U⟩:=h.cs k _ (bn O);exact⟨z,by rw[bn O,U]⟩
theorem vO.offers(h:vO P a cases chans K){k:Nat}(hk:k<cases.size)(hc:chans k=some c):cb (parked a cases .select) c false=[k]:=by
 obtain⟨z,hz⟩:=h.get hk
 have O:∀m:Nat,cases.zipIdx.toList[m]?=(cases[m]?).map λx=>(x,m):=by
  simp
 have:=filter_map_one (id:CommCase×Nat->CommCase×Nat) (λ(W,_)=>W.send.isSome==false&&(match W.chan with|.chan (some r')=>r'==c|_=>false)) _ k _ (by rw[O,hz];rfl) (by simp[hc]) (λm x hm U=>by
  rw[O]at U
  cases e:cases[m]? with
  |none=>rw[e]at U;cases U
  |some y=>
   rw[e]at U;simp only[cI,dg]at U;subst U;obtain⟨z',rfl⟩:=h.cs m y e;have Y:=(bm.1 e).1
   cases aa:chans m with
   |none=>simp|some W=>
    have:W≠c:=by
     rintro rfl;exact hm (h.U7 m k W Y hk aa hc)
    simp[this])
 simp only[List.map_id]at this;exact congrArg _ this
theorem vO.FE(h:vO P a cases chans K)(Y:∀k,k<cases.size->chans k≠some c):cb (parked a cases .select) c false=[]:=by
 have:(cases.zipIdx.toList.filter λ(O,_)=>O.send.isSome==false&&(match O.chan with|.chan (some r')=>r'==c|_=>false))=[]:=by
  rw[List.filter_eq_nil_iff];rintro⟨cc,k⟩ hm;have e:=by simpa using Array.mem_zipIdx_iff_getElem?.1 (bq.1 hm)
  obtain⟨z',rfl⟩:=h.cs k cc e;have U:=(bm.1 e).1
  cases W:chans k with
  |none=>simp|some O=>
   have:O≠c:=by
    rintro rfl;exact Y k U W
   simp[this]
 exact congrArg _ this
theorem At.JA{i:Nat}{g:Goroutine}(h:At P w t i g r)(c:Nat):cb g c true=[]\/∃J m S n v,r=.jk J m S n v/\J.c=c/\cb g c true=[0]:=by
 cases r with
 |quit q=>exact .inl (bV (by rcases Lv.status h with x|x<;>rw[x]<;>simp) ..)|ended O J m S q=>exact .inl (bV (by rcases h.1.status with x|x<;>rw[x]<;>simp) ..)|act J m S n=>
  obtain⟨_,_,h⟩:=h;obtain⟨fr,cs,rfl,_⟩:=h.rS;exact .inl (bV (by simp[G]) ..)
 |jk J m S n v=>
  obtain⟨_,_,g0,z,rfl,_⟩:=h;rw[cm];by_cases e:J.c=c;exact .inr ⟨_,_,_,_,_,rfl,e,by rw[if_pos e]⟩;exact .inl (by rw[if_neg e])
 |start J m S k=>exact .inl (bV (by rw[h.2.2.2.2.2.2.status];simp) ..)
theorem eA.xo(h:r.sum=some (J,n)):r.rR=some J:=by
 cases r with
 |quit q=>cases h
 |ended O U m S q=>cases O<;>first|(cases h;rfl)|cases h
 |act=>cases h;rfl
 |jk=>cases h;rfl
 |start=>cases h;rfl
theorem Co.ways(h:Co P fC w0 Pd ρ m wl gs w t){i:Nat}(Y:(ρ i).sum=some (J,n))(z:Value) :
  (∃m S v,ρ i=.jk J m S n v/\bC w (gs.setIfInBounds 0 ph) (bY J.c z)=[.partner i 0]/\fX w J.c false)\/(∃m S q,ρ i=.ended false J m S q/\n=J.L.length/\bC w (gs.setIfInBounds 0 ph) (bY J.c z)=[.closed]/\fX w J.c true)\/(((∃m S,ρ i=.act J m S n)\/∃m S k,ρ i=.start J m S k)/\bC w (gs.setIfInBounds 0 ph) (bY J.c z)=[]/\fX w J.c false):=by
 obtain⟨g,hi,hg,W⟩:=h.get (i:=i) λe=>by rw[e]at Y;cases Y
 have aa:=eA.xo Y
 have O:(∀m S n v,ρ i≠.jk J m S n v)->bI (gs.setIfInBounds 0 ph) J.c true=[]:=by
  intro ad;refine c9 λj x hx=>?_;rcases cg gs 0 j x hx with⟨_,rfl⟩|⟨hj,hx⟩
  exact cj ..;rcases(h.at_ j x (by omega) hx).JA _ with e|⟨J',m',S',n',v',e,ec,_⟩
  exact e;by_cases ac:j=i;subst ac;rw[e]at aa;cases aa;exact absurd e (ad _ _ _ _);exact absurd ec.symm (h.cc i j J J' (g8 ac) aa (by rw[e];rfl))
 cases U:ρ i with
 |quit q=>rw[U]at Y;cases Y
 |ended hd J' m' S q=>
  rw[U]at Y W
  cases hd with
  |true=>cases Y
  |false=>
   cases Y;obtain⟨_,_,_,_,⟨s,r,hc⟩,_⟩:=W;refine .inr (.inl ⟨m',S,q,rfl,rfl,?_,s,r,hc⟩);simp[bC,bY,hc,O (by rw[U];simp)]
 |act J' m' S n'=>
  rw[U]at Y W;cases Y;obtain⟨_,⟨s,r,hc⟩,_⟩:=W;refine .inr (.inr ⟨.inl ⟨m',S,rfl⟩,?_,s,r,hc⟩);simp[bC,bY,hc,O (by rw[U];simp)]
 |start J' m' S k=>
  rw[U]at Y W;cases Y;obtain⟨_,⟨s,r,hc⟩,_⟩:=W;refine .inr (.inr ⟨.inr ⟨m',S,k,rfl⟩,?_,s,r,hc⟩);simp[bC,bY,hc,O (by rw[U];simp)]
 |jk J' m' S n' v=>
  rw[U]at Y;cases Y;have ab:=W;rw[U]at ab;obtain⟨_,⟨s,r,hc⟩,g0,z0,rfl,_⟩:=ab;refine .inl ⟨m',S,v,rfl,?_,s,r,hc⟩
  have hp:bI (gs.setIfInBounds 0 ph) J.c true=[(i,0)]:=by
   rw[c8 (j:=i) (g:=parked g0 ..) (by rw[bl (by omega)];exact hg) λj x hj hx=>?_];rw[cm,if_pos rfl];rfl;rcases cg gs 0 j x hx with⟨_,rfl⟩|⟨ae,hx⟩
   exact cj ..;rcases(h.at_ j x (by omega) hx).JA _ with e|⟨J2,m2,S2,n2,v2,e,ec,_⟩
   exact e;exact absurd ec.symm (h.cc i j J J2 (g8 hj) aa (by rw[e];rfl))
  simp[bC,bY,hc,hp]
theorem wO{i k cap s r:Nat}{buf:Array Value}{tm:Bool}{v z:Value}{g rZ:Goroutine}{es:Array Event}(hi:gs[i]?=some g)(h:b5 P (i==0) g w=.comm rZ #[cf c v z] true .send w₁ es)(hc:w₁.heap[c]?=some (.chan cap buf false s r tm))(ac:0<i)(h0:gs[0]?=some (parked a cases .select))(hp:bI (gs.setIfInBounds i ph) c false=[(0,k)])(hk:∃cc,cases[k]?=some cc/\cc.send=none) :
  bR P (bZ gs w sl) i=(.next (bZ ((gs.setIfInBounds 0 (a.finishComm P cases .select k v true)).setIfInBounds i (bX rZ hU)) {w₁ with heap:=w₁.heap.setIfInBounds c (.chan cap buf false (s+1) (r+1) tm)} sl),
   de i g.frame.fn g.frame.place es++[({g:=i,fn:=rZ.frame.fn,pos:=rZ.frame.place,act:=.send c s}:MemOp),{g:=0,fn:=a.frame.fn,pos:=a.frame.place,act:=.recv c r cap},{g:=i,fn:=rZ.frame.fn,pos:=rZ.frame.place,act:=.sendDone c s},{g:=0,fn:=a.frame.fn,pos:=a.frame.place,act:=.recvDone c r}].toArray):=by
 rw[cw hi h];have U:(0)≠i:=by omega
 have O:=stand_get (i:=i) U h0;have W:=cv P _ O (cs:=cases) (sh:=.select) rfl k v;have Y:(gs.setIfInBounds i ph).getD 0 default=parked a cases .select:=by rw[bt,O];rfl
 obtain⟨cc,aa,ab⟩:=hk;simp[b6,bC,cf,hc,hp,choose,hM,hA,bind,hO,pure,bZ,W,Y,set_stand2,finishComm_parked,aa,ab,parked];rfl
end
end
section
open Go.Conc
open Go.ConcN (upd upd_same upd_ne)
variable {f f':b8} {c cap r s:Nat} {p p':String}
section
variable {P:Program} {fC:Nat->Prop} {w0:World} {Pd:Nat->Prop} {m:Ren} {wl:World} {a:Goroutine} {cases:Array CommCase} {chans:Nat->Option Nat} {K:Nat->Option (mJ×Nat)}
theorem Pk{ρ:Nat->eA}{i:Nat}{r:eA}{x:Option (mJ×Nat)}(O:∀j,(ρ j).sum=K j)(U:r.sum=x)(j:Nat):(cM ρ i r j).sum=cM K i x j:=by
 by_cases e:j=i;subst e;rw[cK,cK];exact U;rw[cL _ _ e,cL _ _ e];exact O j
theorem Cd{i:Nat}:∀op∈([{g:=i,fn:=f,pos:=p,act:=.send c s},{g:=0,fn:=f',pos:=p',act:=.recv c r cap},{g:=i,fn:=f,pos:=p,act:=.sendDone c s},{g:=0,fn:=f',pos:=p',act:=.recvDone c r}]:List MemOp),op.act.touch?=none:=by
 intro op O;simp only[cN,cO,or_false]at O;rcases O with rfl|rfl|rfl|rfl<;>rfl
theorem yG{i:Nat}:∀op∈([{g:=i,fn:=f,pos:=p,act:=.send c s},{g:=0,fn:=f',pos:=p',act:=.recv c r cap},{g:=i,fn:=f,pos:=p,act:=.sendDone c s},{g:=0,fn:=f',pos:=p',act:=.recvDone c r}]:List MemOp),op.act≠.mark .disable/\op.act≠.mark .enable:=by
 intro op O;simp only[cN,cO,or_false]at O;rcases O with rfl|rfl|rfl|rfl<;>simp
def NV(ρ:Nat->eA)(cases:Array CommCase)(chans:Nat->Option Nat)(K:Nat->Option (mJ×Nat)):Prop:=
 ∀k c,k<cases.size->chans k=some c->∃i J n,K i=some (J,n)/\J.c=c/\((∃m S,ρ i=.act J m S n)\/∃m S k,ρ i=.start J m S k)
theorem select{Z:jN P}{N:Nat}(hS:vO P a cases chans K)
  (hv:∀(k i:Nat)J n v,k<cases.size->chans k=some J.c->K i=some (J,n)->J.L[n]?=some v->∀ρ gs w sl t,Co P fC w0 Pd ρ m wl gs w t->(∀j,(ρ j).sum=cM K i (some (J,n+1)) j)->gs[0]?=some (a.finishComm P cases .select k v true)->gs.size=N->Z.Up (bZ gs w sl) t)
  (he:∀(k i:Nat)J z,cases[k]?=some (bY J.c z)->chans k=some J.c->K i=some (J,J.L.length)->∀ρ gs w sl t,Co P fC w0 Pd ρ m wl gs w t->(∀j,(ρ j).sum=cM K i none j)->gs[0]?=some (a.finishComm P cases .select k z false)->gs.size=N->Z.Up (bZ gs w sl) t) :
  ∀ρ gs w sl t,Co P fC w0 Pd ρ m wl gs w t->(∀j,(ρ j).sum=K j)->gs[0]?=some a->gs.size=N->Z.Up (bZ gs w sl) t:=by
 have key:∀ρ,Acc (GX (iO P) N) ρ->∀gs w sl t,Co P fC w0 Pd ρ m wl gs w t->(∀j,(ρ j).sum=K j)->gs.size=N->((∃a',gs[0]?=some a'/\a'.status=.running/\∀w,b5 P true a' w=.comm a cases true .select w #[])\/(gs[0]?=some (parked a cases .select)/\NV ρ cases chans K))->Z.Up (bZ gs w sl) t:=by
  intro ρ aM;induction aM with
  |intro ρ _ ih=>
   have hB:∀gs w sl t,Co P fC w0 Pd ρ m wl gs w t->(∀j,(ρ j).sum=K j)->gs.size=N->gs[0]?=some (parked a cases .select)->NV ρ cases chans K->Z.Up (bZ gs w sl) t:=by
    intro gs w sl t h hK hN h0 hW
    have av:∃(i:Nat)(g:Goroutine),gs[i]?=some g/\g.status=.running:=by
     obtain⟨k,c,W,hc⟩:=hS.some_;obtain⟨i,J,n,U,_,hr⟩:=hW k c W hc;obtain⟨g,hi,hg,ad⟩:=h.get (i:=i) λe=>by rcases hr with⟨_,_,x⟩|⟨_,_,_,x⟩<;>rw[e]at x<;>cases x
     refine⟨i,g,hg,?_⟩;rcases hr with⟨_,_,x⟩|⟨_,_,_,x⟩
     rw[x]at ad;obtain⟨_,_,ad⟩:=ad;obtain⟨fr,cs,rfl,_⟩:=ad.rS;rfl;rw[x]at ad;exact ad.2.2.2.2.2.2.status
    obtain⟨i,g,d,ae,hi,hg,ay⟩:=ct (P:=P) (w:=w) (sl:=sl) (h.awake h0 (.inr (.inl rfl))) av;refine Z.back _ _ ?_;rw[ay]
    have ab:0<i:=by
     rcases db i with rfl|ab
     rw[h0]at hi;cases hi;cases hg;exact ab
    have aV:(i==0)=false:=by simp;omega
    have al:i<gs.size:=(bm.1 hi).1;have O:=h.at d;by_cases az:∃J mi S n g₁ cs w₁ es,ρ i=.act J mi S n/\b5 P false g (w.at d)=.comm g₁ cs true .send w₁ es/\cb (parked a cases .select) J.c false≠[];obtain⟨J,mi,S,n,g₁,cs,w₁,es,ac,ao,aW⟩:=az;have ad:=O.at_ i g ab hi;rw[ac]at ad;obtain⟨aw,⟨s,r,hc⟩,a8⟩:=ad
    have aN:¬J.Stop S:=by
     intro aB;obtain⟨hn,fr,ps,a',ty,cs',rfl,hm,hd,hq,bh⟩:=a8.stands aw aB;rw[closing (P:=P) (ps:=ps) hm hd hq hc]at ao;cases ao
    have aO:=a8.AV aw aN;rw[ao]at aO
    cases aO with
    |@send S' dx _ _ _ v' z' bi aX af W aY=>
     have a0:(ρ i).live=some mi:=by rw[ac];rfl
     obtain⟨bj,aZ⟩:=O.wr (eA.nN a0);have ap:=W.chan aZ hc
     obtain⟨k,aC,aP⟩:∃k,k<cases.size/\chans k=some J.c:=by
      apply dt;intro aq;exact aW (hS.FE λk W hc=>aq ⟨k,W,hc⟩)
     obtain⟨zk,ag⟩:=hS.get aC
     have hp:bI (gs.setIfInBounds i ph) J.c false=[(0,k)]:=by
      rw[c8 (j:=0) (g:=parked a cases .select) (by rw[bl (by omega)];exact h0) λj x hj hx=>?_];rw[hS.offers aC aP];rfl;rcases cg gs i j x hx with⟨_,rfl⟩|⟨_,hx⟩
      exact cj _ _;exact(O.at_ j x (by omega) hx).offers J.c
     have ar:=wO (P:=P) (sl:=ae) hi (by rw[aV];exact ao) ap ab h0 hp ⟨_,ag,rfl⟩;rw[ar];refine Z.next _ _ _ _ ?_;obtain⟨v0,fr',cs',e,aQ⟩:=af.rS;obtain⟨f0,bk,_,_,_,_,_,_,_,ba,_⟩:=aQ.rS
     have h1:Co P fC w0 Pd (cM ρ i (.jk J dx S' n v')) m wl (gs.setIfInBounds i (parked g₁ #[cf J.c v' z'] .send)) w₁ (t++de i g.frame.fn g.frame.place es):=
      O.step (gs':=gs.setIfInBounds i (parked g₁ #[cf J.c v' z'] .send)) ab al a0 aX W aY ba ⟨aw,⟨s,r,ap⟩,g₁,z',rfl,af⟩ rfl (by rw[ac];rfl) (by rw[ac];rfl) (by rw[ac];rfl) (by simp) (by simp[al]) (yQ _)
     obtain⟨bc,h2⟩:=h1.T5 (gs':=(gs.setIfInBounds 0 (a.finishComm P cases .select k v' true)).setIfInBounds i (bX g₁ hU)) (g₁:=g₁) (z:=z') (u:=[({g:=i,fn:=g₁.frame.fn,pos:=g₁.frame.place,act:=.send J.c s}:MemOp),{g:=0,fn:=a.frame.fn,pos:=a.frame.place,act:=.recv J.c r 0},{g:=i,fn:=g₁.frame.fn,pos:=g₁.frame.place,act:=.sendDone J.c s},{g:=0,fn:=a.frame.fn,pos:=a.frame.place,act:=.recvDone J.c r}]) ab (cK _ _ _) (by simp[al]) ap (s':=s+1) (r':=r+1) rfl Cd yG (by simp) (by simp[al]) (λj hj a7=>by
      rw[bl (g8 a7),bl (by omega),bl (g8 a7)])
     obtain⟨v1,aR,aD⟩:=af.value aw;have U:K i=some (J,n):=by rw[<-hK i,ac];rfl
     have ev:v'=v1:=hS.flat i J n U v1 (cW aR) _ _ aD;subst ev;rw[<-Array.append_assoc];refine hv k i J n v' aC aP U aR _ _ _ ae _ h2 (λj=>?_) (by rw[bl (by omega),bs (by omega)]) (by simp[hN]);by_cases ej:j=i;subst ej;rw[cK,cK];rfl;rw[cL _ _ ej,cL _ _ ej,cL _ _ ej];exact hK j
    obtain⟨gs',w',ops,ρ',hr,ai,aE,aj,aF,hz,bd,aG⟩:=O.other (sl:=ae) ab hi hg h0 λJ mi S n g₁ cs w₁ es h1 h2=>dt λh3=>az ⟨J,mi,S,n,g₁,cs,w₁,es,h1,h2,h3⟩;rw[hr];refine Z.next _ _ _ _ (ih ρ' (hN▸aE) gs' w' ae (t++ops) ai (λj=>(aj j).trans (hK j)) (aF.trans hN) ?_)
    have a9:(∀k c,k<cases.size->chans k=some c->¬fX w' c true)->NV ρ' cases chans K:=by
     intro ak k c W hc;obtain⟨Y,J,n,U,aa,aH⟩:=hW k c W hc;refine⟨Y,J,n,U,aa,?_⟩;rcases ai.ways (i:=Y) (J:=J) (n:=n) ((aj Y).trans ((hK Y).trans U)) hU with⟨m1,S1,v1,e,_⟩|⟨m1,S1,q1,e,_,_,jP⟩|⟨e,_⟩
     by_cases ei:Y=i;subst ei;have:=bd J m1 S1 n v1 e;rw[aa,hS.offers W hc]at this;cases this;rw[aG Y ei]at e;rcases aH with⟨_,_,x⟩|⟨_,_,_,x⟩<;>rw[e]at x<;>cases x
     exact absurd (aa▸jP) (ak k c W hc);exact e
    have a3:(∀j,(ρ' j).chan=(ρ j).chan)->∀k c,k<cases.size->chans k=some c->¬fX w' c true:=by
     intro ax k c W hc jP;obtain⟨Y,J,n,U,aa,aH⟩:=hW k c W hc
     have aS:(ρ' Y).chan=some J:=by
      rw[ax];rcases aH with⟨_,_,x⟩|⟨_,_,_,x⟩<;>rw[x]<;>rfl
     obtain⟨s1,r1,jP⟩:=jP;rcases ai.ways (i:=Y) (J:=J) (n:=n) ((aj Y).trans ((hK Y).trans U)) hU with⟨m1,S1,v1,e,_,s2,r2,hx⟩|⟨m1,S1,q1,e,_,_,_⟩|⟨e,_,s2,r2,hx⟩
     rw[aa,jP]at hx;cases hx;rw[e]at aS;cases aS;rw[aa,jP]at hx;cases hx
    rcases hz with⟨hx,ax⟩|hx
    exact .inr ⟨hx,a9 (a3 ax)⟩;by_cases jP:∃k c,k<cases.size/\chans k=some c/\fX w' c true;obtain⟨k,c,W,hc,s1,r1,jP⟩:=jP;refine .inl ⟨{parked a cases .select with status:=.running},?_,rfl,hS.Uf⟩;rw[hx];obtain⟨zk,ag⟩:=hS.get W;rw[hc]at ag
    have a4:(cases.any λc:CommCase=>match c.chan with
      |.chan (some r)=>(w'.heap[r]? matches some (.chan _ _ true ..))
      |_=>false)=true:=by
     rw[Array.any_eq_true];refine⟨k,W,?_⟩
     have:cases[k]=⟨.chan (some c),none,zk⟩:=by
      rw[bn W]at ag;exact dk ag
     simp[this,jP]
    unfold gv;simp only[parked];exact congrArg some (if_pos a4);have ak:∀k c,k<cases.size->chans k=some c->¬fX w' c true:=λk c W hc hx=>jP ⟨k,c,W,hc,hx⟩;refine .inr ⟨?_,a9 ak⟩;rw[hx]
    have a4:(cases.any λc:CommCase=>match c.chan with
      |.chan (some r)=>(w'.heap[r]? matches some (.chan _ _ true ..))
      |_=>false)=false:=by
     rw[Array.any_eq_false];intro k W;obtain⟨zk,ag⟩:=hS.get W
     have e:cases[k]=⟨.chan (chans k),none,zk⟩:=by
      rw[bn W]at ag;exact dk ag
     cases am:chans k with
     |none=>rw[am]at e;simp[e]|some c=>
      rw[am]at e;obtain⟨Y,J,n,U,aa⟩:=hS.own k c W am;have no:=ak k c W am;rcases ai.ways (i:=Y) (J:=J) (n:=n) ((aj Y).trans ((hK Y).trans U)) hU with⟨_,_,_,_,_,s2,r2,hx⟩|⟨_,_,_,_,_,_,hx⟩|⟨_,_,s2,r2,hx⟩
      rw[aa]at hx;simp[e,hx];exact absurd (aa▸hx) no;rw[aa]at hx;simp[e,hx]
    unfold gv;simp only[parked];exact congrArg some (if_neg (by rw[eC];exact a4))
   intro gs w sl t h hK hN ay;rcases ay with⟨a',h0,an,a5⟩|⟨h0,hW⟩
   obtain⟨i,g,d,ae,hi,hg,ay⟩:=ct (P:=P) (w:=w) (sl:=sl) (h.awake h0 (.inl an)) ⟨0,a',h0,an⟩;refine Z.back _ _ ?_;rw[ay];have O:=h.at d;rcases db i with rfl|ab
   obtain rfl:g=a':=by rw[h0]at hi;exact(dk hi).symm
   have al:0<gs.size:=(bm.1 hi).1;have ao:b5 P (0==0) g (w.at d)=.comm a cases true .select (w.at d) #[]:=a5 (w.at d);have e0:de 0 g.frame.fn g.frame.place #[]=#[]:=by rw[cd];simp
   have made:∀cc∈cases,cA (w.at d) cc=false:=by
    intro cc ah;obtain⟨k,W,rfl⟩:=bp.1 ah;obtain⟨z,hz⟩:=hS.cs k cases[k] (bn W);rw[hz]
    cases am:chans k with
    |none=>rfl|some c=>
     obtain⟨Y,J,n,U,aa⟩:=hS.own k c W am;obtain⟨cl,s,r,hx⟩:=O.is (eA.xo ((hK Y).trans U));rw[aa]at hx;simp[cA,hx]
   have one:∀(k:Nat)cc,cases[k]?=some cc->(bC (w.at d) (gs.setIfInBounds 0 ph) cc=[])\/∃i J n,chans k=some J.c/\K i=some (J,n)/\(∃z,cc=bY J.c z)/\((∃m S v,ρ i=.jk J m S n v/\bC (w.at d) (gs.setIfInBounds 0 ph) cc=[.partner i 0]/\fX (w.at d) J.c false)\/(∃m S q,ρ i=.ended false J m S q/\n=J.L.length/\bC (w.at d) (gs.setIfInBounds 0 ph) cc=[.closed]/\fX (w.at d) J.c true)):=by
    intro k cc ah;have W:k<cases.size:=(bm.1 ah).1;obtain⟨z,rfl⟩:=hS.cs k cc ah
    cases am:chans k with
    |none=>exact .inl rfl|some c=>
     obtain⟨Y,J,n,U,aa⟩:=hS.own k c W am;subst aa;rcases O.ways ((hK Y).trans U) z with⟨m1,S1,v1,x1,x2,x3⟩|⟨m1,S1,q1,x1,x2,x3,x4⟩|⟨_,x2,_⟩
     exact .inr ⟨Y,J,n,rfl,U,⟨z,rfl⟩,.inl ⟨m1,S1,v1,x1,x2,x3⟩⟩;exact .inr ⟨Y,J,n,rfl,U,⟨z,rfl⟩,.inr ⟨m1,S1,q1,x1,x2,x3,x4⟩⟩;exact .inl x2
   by_cases au:∃(k:Nat)(cc:CommCase),cases[k]?=some cc/\bC (w.at d) (gs.setIfInBounds 0 ph) cc≠[]
   rcases AG (P:=P) (sl:=ae) hi ao made (λk cc ah=>by
    rcases one k cc ah with x|⟨Y,J,n,_,_,⟨z,rfl⟩,⟨m1,S1,v1,_,x2,s,r,x3⟩|⟨m1,S1,q1,_,_,x3,s,r,x4⟩⟩
    exact .inl x;exact .inr (.inr ⟨J.c,z,_,_,_,_,_,_,_,_,rfl,x3,x2⟩)
    exact .inr (.inl ⟨J.c,z,_,_,_,_,_,rfl,x4,x3⟩)) au with⟨k,c,z,d',W,hw,ar⟩|⟨k,c,z,d',j,q,cap,s,r,buf,cl,tm,W,ax,hw,ar⟩
   rcases one k _ W with x|⟨Y,J,n,aI,U,⟨z',ez⟩,⟨m1,S1,v1,_,x2,_⟩|⟨m1,S1,q1,ac,hn,_,_⟩⟩
   rw[x]at hw;cases hw;rw[x2]at hw;cases hw;have ec:c=J.c:=by simp[bY]at ez;exact ez.1
   subst ec
   have aJ:0<Y:=by
    obtain⟨_,x,_,_⟩:=O.get (i:=Y) (by rw[ac];simp);exact x
   rw[ar,e0,bu];refine Z.next _ _ _ _ ?_;have hh:=(O.at d').hear (gs':=gs.setIfInBounds 0 (a.finishComm P cases .select k z false)) (fn:=a.frame.fn) (pos:=a.frame.place) aJ ac (by simp) (λj hj=>bl (by omega));subst hn;exact he k Y J z W aI U _ _ _ ae _ hh (Pk hK rfl) (by simp[al]) (by simpa using hN);rcases one k _ W with x|⟨Y,J,n,aI,U,⟨z',ez⟩,⟨m1,S1,v1,ac,x2,s2,r2,hx⟩|⟨m1,S1,q1,ac,hn,x2,_⟩⟩
   rw[x]at hw;cases hw;have ec:c=J.c:=by simp[bY]at ez;exact ez.1
   subst ec;rw[x2]at hw;obtain⟨rfl,rfl⟩:Y=j/\0=q:=by simpa using hw
   have aA:(w.at d).heap[J.c]?=some (.chan 0 #[] false s2 r2 false):=hx;rw[aA]at ax;cases ax;obtain⟨gi,aJ,aK,ad⟩:=O.get (i:=Y) (by rw[ac];simp);rw[ac]at ad;obtain⟨aw,_,g0,z0,rfl,af⟩:=ad;have aL:(gs.setIfInBounds 0 ph)[Y]?=some (parked g0 #[cf J.c v1 z0] .send):=by rw[bl (by omega)];exact aK
   have be:bP (gs.setIfInBounds 0 ph) Y 0=v1:=by simp[bP,aL,parked,cf]
   have bf:=cv P (gs.setIfInBounds 0 ph) aL (cs:=#[cf J.c v1 z0]) (sh:=.send) rfl 0 hU;have bg:(gs.setIfInBounds 0 ph).getD Y default=parked g0 #[cf J.c v1 z0] .send:=by rw[bt,aL];rfl
   rw[ar,e0,bu,be,bf,bg];refine Z.next _ _ _ _ ?_;obtain⟨v2,aT,aD⟩:=af.value aw;have ev:v1=v2:=hS.flat Y J n U v2 (cW aT) _ _ aD;subst ev
   obtain⟨bc,hh⟩:=(O.at d').T5 (gs':=(((gs.setIfInBounds 0 ph).setIfInBounds Y ((parked g0 #[cf J.c v1 z0] .send).finishComm P #[cf J.c v1 z0] .send (0:Nat) hU (((#[cf J.c v1 z0]:Array CommCase)[0]?.map (·.send.isNone)).getD false))).setIfInBounds 0 (a.finishComm P cases .select k v1 true))) (g₁:=g0) (z:=z0) (u:=[({g:=Y,fn:=g0.frame.fn,pos:=g0.frame.place,act:=.send J.c s}:MemOp),{g:=0,fn:=a.frame.fn,pos:=a.frame.place,act:=.recv J.c r 0},{g:=Y,fn:=g0.frame.fn,pos:=g0.frame.place,act:=.sendDone J.c s},{g:=0,fn:=a.frame.fn,pos:=a.frame.place,act:=.recvDone J.c r}]) aJ ac aK aA (s':=s+1) (r':=r+1) rfl Cd yG (by simp) (by
    rw[bl (by omega),bs (by simpa using(bm.1 aK).1)]
    rfl) (λj hj a7=>by
    rw[bl (by omega),bl (g8 a7),bl (by omega)])
   exact hv k Y J n v1 (bm.1 W).1 aI U aT _ _ _ ae _ hh (Pk hK rfl) (by simp[al]) (by simpa using hN);rw[x2]at hw;cases hw;have a6:∀(k:Nat)cc,cases[k]?=some cc->bC (w.at d) (gs.setIfInBounds 0 ph) cc=[]:=λk cc ah=>dt λhx=>au ⟨k,cc,ah,hx⟩
   have ar:=cB (P:=P) (sl:=ae) hi ao (λcc ah=>by
    obtain⟨k,W,rfl⟩:=bp.1 ah
    exact⟨made _ (Array.getElem_mem W),a6 k _ (bn W)⟩)
   rw[ar,e0];refine Z.next _ _ _ _ ?_;rw[bx]
   have aU:Co P fC w0 Pd ρ m wl (gs.setIfInBounds 0 (parked a cases .select)) (w.at d) t:=by
    refine⟨O.main,λi g hi hg=>O.at_ i g hi (by rw[bl (by omega)]at hg;exact hg),λi hi=>O.out i (by simpa using hi),O.d0,O.dd,O.cc,O.s0,O.ss,O.My,O.low,O.hears,O.kw,O.clean,O.fix,O.f0,O.ff,O.cx,O.sz,O.os,O.kn,O.pd,O.len⟩
   refine hB _ _ _ _ aU hK (by simpa using hN) (by simp[al]) λk c W hc=>?_;obtain⟨Y,J,n,U,aa⟩:=hS.own k c W hc;refine⟨Y,J,n,U,aa,?_⟩;obtain⟨zk,ag⟩:=hS.get W;have aq:=a6 k _ ag;rw[hc,<-aa]at aq;rcases O.ways ((hK Y).trans U) zk with⟨_,_,_,_,x2,_⟩|⟨_,_,_,_,_,x3,_⟩|⟨x,_⟩
   rw[show(⟨.chan (some J.c),none,zk⟩:CommCase)=bY J.c zk from rfl,x2]at aq;cases aq;rw[show(⟨.chan (some J.c),none,zk⟩:CommCase)=bY J.c zk from rfl,x3]at aq;cases aq;exact x;obtain⟨gs',w',ops,ρ',hr,ai,aE,aj,aF,hz,_,_⟩:=O.other (sl:=ae) ab hi hg h0 λJ mi S n _ _ _ _ _ _=>bV (by rw[an];simp) _ _;rw[hr];refine Z.next _ _ _ _ (ih ρ' (hN▸aE) gs' w' ae (t++ops) ai (λj=>(aj j).trans (hK j)) (aF.trans hN) (.inl ⟨a',?_,an,a5⟩));rcases hz with⟨x,_⟩|x
   exact x;rw[x,cz _ (.inl an)];exact hB gs w sl t h hK hN h0 hW
 intro ρ gs w sl t h hK h0 hN;exact key ρ (hN▸h.acc) gs w sl t h hK hN (.inl ⟨a,h0,hS.run,hS.step⟩)
end
end
section
open Go.Conc
open Go.ConcN (upd upd_same upd_ne)
variable {V:List (Nat×Option (List Value))}
section
variable {P:Program} {fC:Nat->Prop} {w0:World} {Pd:Nat->Prop} {ρ:Nat->eA} {m dx:Ren} {wl qy:World} {gs gs':Array Goroutine} {w w₁:World} {t:b9} {sl:Option (Nat×Nat)}
theorem Co.xb{fn:b8}{pos:String}{es:Array Event}(h:Co P fC w0 Pd ρ m wl gs w t)(ac:m.Le dx)(hk:fA m dx w w₁)(he:∀e∈es,oG dx e)(U:WR dx qy w₁)(ag:gs'.size=gs.size)
  (ah:∀j x,0<j->gs'[j]?=some x->∃y,gs[j]?=some y/\(At P w₁ (t++de 0 fn pos es) j y (ρ j)->x=y)) :
  Co P fC w0 Pd ρ dx qy gs' w₁ (t++de 0 fn pos es):=by
 have dj:∀j m',(ρ j).mO=some m'->nS dx m':=λj m' O=>by
  obtain⟨wl',ai⟩:=h.wr O;exact nS.grow (h.d0 j m' O) ac hk ai
 have W:∀c cl,fX w c cl->w₁.heap[c]?=w.heap[c]?:=λc cl x=>hk.P4 h.main x
 have hrel:∀j y,0<j->gs[j]?=some y->At P w₁ (t++de 0 fn pos es) j y (ρ j):=by
  intro j y hj hy;refine(h.at_ j y hj hy).rely (λm' O=>hk.leaves (h.d0 j m' O) (h.wr O).choose_spec) (λJ hJ=>?_) hk.size hk.os λop aa hg=>absurd (ofEvents_g aa) (by omega);obtain⟨cl,Y⟩:=h.is hJ;exact W _ cl Y
 have ab:=h.s0.grow ac h.low hk.news;refine⟨U,λj x af Y=>?_,λj hj=>h.out j (by rw[<-ag];exact hj),dj,h.dd,h.cc,ab.own,λj m' O=>(h.ss j m' O).other (dj j m' (eA.nN O)).symm he,λj J hJ p a ha hb=>?_,h.low.own U hk.size he,AO h.hears he,h.kw.app λop aa=>.inr (.inl (ofEvents_g aa)),ab.clean h.clean he,λb hb=>?_,λr b aj hb=>?_,h.ff,h.cx,da h.sz hk.size,⟨hk.os.trans h.os.1,hk.output.trans h.os.2⟩,h.kn.app (λj m' r b O Y=>⟨j,m',r,O,Y⟩) (λop aa _ _ _ _ _=>.inl (ofEvents_g aa)),h.pd.app (λ_=>rfl) (λc _ ad=>W c _ ad) (λop aa a c ha _ ad hb=>?_),h.len⟩;obtain⟨y,hy,ak⟩:=ah j x af Y;have:=hrel j y af hy;rw[ak this];exact this;rcases dZ ha with⟨_,h1⟩|⟨op,h1,_,h3⟩
 exact h.My j J hJ p a h1 hb;obtain⟨e,ae,rfl⟩:=bU h1
 have hm:a.loc.isMemory=true:=by
  cases hl:a.loc<;>rw[hl]at hb<;>simp[kM]at hb<;>rfl
 obtain⟨b',r',g1,g2,g3⟩:=mq (he e ae) h3 hm;rw[hb]at g1;cases g1;obtain⟨cl,s,y,Y⟩:=h.is (eA.ux hJ);have:fX w₁ _ cl:=⟨s,y,by rw[W _ cl ⟨s,y,Y⟩];exact Y⟩;exact U.zy this g2;obtain⟨h1,h2⟩:=h.fix b hb;refine⟨cY h1 hk.size,?_⟩;rw[<-h2];by_cases Y:∃r,m.blk r=some b;obtain⟨r,Y⟩:=Y;exact hk.still r b Y (h.f0 r b Y hb);exact hk.old b h1 λr al=>Y ⟨r,al⟩;rcases hk.news r b aj with x|x
 exact(ac.loose r b x).2 (h.f0 r b x hb);have:=(h.fix b hb).1;omega;obtain⟨e,ae,rfl⟩:=bU aa
 have hm:a.loc.isMemory=true:=by
  cases hl:a.loc<;>rw[hl]at hb<;>simp[kM]at hb<;>rfl
 obtain⟨b',r',g1,g2,g3⟩:=mq (he e ae) ha hm;rw[hb]at g1;cases g1;obtain⟨s,y,Y⟩:=ad;exact U.zy (cl:=false) ⟨s,y,by rw[W _ false ⟨s,y,Y⟩];exact Y⟩ g2
theorem Co.calm(h:Co P fC w0 Pd ρ m wl gs w t)(O:∀i,(ρ i).sum=none)(m':Ren):ni t 0 m':=by
 intro p a b r U hb _ _
 have hm:a.loc.isMemory=true:=by
  cases W:a.loc<;>rw[W]at hb<;>simp[kM]at hb<;>rfl
 rcases h.kw p a U hm with x|⟨op,_,x⟩
 exact x;exact absurd (O _) x
theorem gF{g g':Goroutine}{u:b9}(w₁:World):∀j x,0<j->((gs.map (woken P g g' w₁)).setIfInBounds 0 g')[j]?=some x->∃y,gs[j]?=some y/\(At P w₁ u j y (ρ j)->x=y):=by
 intro j x W O;rw[bl (by omega),bw]at O;obtain⟨y,U,rfl⟩:=cH.1 O;exact⟨y,U,λh=>h.woken g g'⟩
end
structure OF where
 fn:b8
 tm:Array Value
 td:List Item
def fN(fn:b8)(tm:Array Value)(td:List Item):Frame:=⟨fn,tm,td,[],.run,.normal,none⟩
inductive nR(m:Ren)(T:List Frame):List OF->List Frame->Prop
 |nil:nR m T [] T|cons {o os tm' l}:ep m o.tm tm'->nR m T os l->nR m T (o::os) (fN o.fn tm' o.td::l)
theorem nR.mono{m dx:Ren}{T:List Frame}(h:m.Le dx){os:List OF}{l:List Frame}(x:nR m T os l):nR dx T os l:=by
 induction x with
 |nil=>exact .nil|cons O _ U=>exact .cons (O.mono h) U
structure Env(P:Program) where
 Z:jN P
 fC:Nat->Prop
 w0:World
 T:List Frame
 gl:Nat->Prop
 st:Bool
 fw:b8->Prop
 ok:Oper->Prop
 X:Ren->Prop
 le:∀m dx:Ren,m.Le dx->X m->X dx
structure Rg{P:Program}(E:Env P)(m:Ren):Prop where
 pA:l6 P m E.gl E.st
 il:¬m.il
 mz:∀r r',m.ch r=some r'->m.kI r=some (.chan 0 #[] false 0 0 false)
 fw:m.fw=E.fw
 Si:m.ok=E.ok
 x:E.X m
structure RR(m:Ren)(ρ:Nat->eA)(Pd:Nat->Prop)(V:List (Nat×Option (List Value))):Prop where
 all:∀r vs,(r,some vs)∈V->∃i J n,(ρ i).sum=some (J,n)/\m.ch r=some J.c/\n<=J.L.length/\J.L.drop n=vs/\∀v∈J.L,∀(m:Ren)v',VR m v v'->v'=v
 only:∀i J n,(ρ i).sum=some (J,n)->∃r vs,(r,some vs)∈V/\m.ch r=some J.c
 MH:∀r,(r,none)∈V->∃c,m.ch r=some c/\Pd c
section
variable {P:Program} {E:Env P}
theorem Rg.open{m:Ren}(h:Rg E m):Open m:=λr r' O=>⟨_,_,_,_,_,h.mz r r' O⟩
theorem Rg.le{m dx:Ren}{w w₁:World}(h:Rg E m)(O:m.Le dx)(U:fA m dx w w₁):Rg E dx:=
 ⟨h.pA.mono O,by rw[O.il];exact h.il,λr r' W=>by rw[U.mz h.il]at W;rw[U.kI];exact h.mz r r' W,O.fw.trans h.fw,O.ok.trans h.Si,E.le m dx O h.x⟩
theorem RR.le{m dx:Ren}{ρ ρ':Nat->eA}{Pd:Nat->Prop}(h:RR m ρ Pd V)(W:m.Le dx)(hs:∀j,(ρ' j).sum=(ρ j).sum):RR dx ρ' Pd V:=by
 refine⟨λr vs Y=>?_,λi J n hi=>?_,λr Y=>?_⟩;obtain⟨i,J,n,O,U,h3⟩:=h.all r vs Y;exact⟨i,J,n,by rw[hs];exact O,W.ch _ _ U,h3⟩;rw[hs]at hi;obtain⟨r,vs,O,U⟩:=h.only i J n hi;exact⟨r,vs,O,W.ch _ _ U⟩;obtain⟨c,O,U⟩:=h.MH r Y;exact⟨c,W.ch _ _ O,U⟩
def dl(E:Env P)(os:List OF)(wl:World)(V:List (Nat×Option (List Value))):Prop:=
 ∀m(Pd:Nat->Prop)ρ gs w sl t fr' cs',Rg E m->Co P E.fC E.w0 Pd ρ m wl gs w t->RR m ρ Pd V->nR m E.T os (fr'::cs')->gs[0]?=some (G fr' cs')->E.Z.Up (bZ gs w sl) t
def Ry(E:Env P)(os:List OF)(wl:World)(N:List OF->World->Prop):Prop:=
 ∀m w fr' cs',Rg E m->nR m E.T os (fr'::cs')->WR m wl w->∃dx O U w₁ es W qy,b5 P true (G fr' cs') w=.go (G O U) w₁ es/\m.Le dx/\fA m dx w w₁/\(∀e∈es,oG dx e)/\nR dx E.T W (O::U)/\WR dx qy w₁/\N W qy
theorem dl.step{os:List OF}{wl:World}{N:List OF->World->Prop}(h:Ry E os wl N)(hn:∀O qy,N O qy->dl E O qy V):dl E os wl V:=by
 intro m Pd ρ gs w sl t fr' cs' aa ae af ab h0;refine turn (Z:=E.Z) (a:=G fr' cs') (K:=λj=>(ρ j).sum) (N:=gs.size) rfl ?_ ρ gs w sl t ae (λ_=>rfl) h0 rfl;intro ρ' gs' w' aj ac d t' U hK ad hN;obtain⟨dx,W,Y,w₁,es,O,qy,hs,hl,hk,he,ho,hw,ag⟩:=h m _ fr' cs' aa ab U.main;have ah:=bW (P:=P) (sl:=ac) (i:=0) ad (show b5 P .. = _ from hs);rw[ah];refine E.Z.next _ _ _ _ ?_;have ai:=(bm.1 ad).1;exact hn O qy ag dx Pd ρ' _ _ ac _ W Y (aa.le hl hk) (U.xb (gs':=(gs'.map _).setIfInBounds 0 _) hl hk he hw (by simp) (gF _)) (af.le hl hK) ho (by simp[ai])
end
end
section
open Go.Conc
variable {ops:Array Oper} {t t':Array Value} {x y:Code} {rest:List Nat} {i id:Nat} {m:Ren}
def eM(O:Option Tmp)(tm:Array Value)(v:Value):Array Value:=match O with|some d=>tm.setIfInBounds d v|none=>tm
def iS(tm:Array Value):Operand->Value:=Act.eval ⟨tm,[]⟩
section
variable {P:Program} {E:Env P} {fn:b8} {tm:Array Value} {os:List OF} {wl:World} {V:List (Nat×Option (List Value))} {k:List Item}
theorem NQ(fn:b8)(tm:Array Value)(td:List Item):(fN fn tm td).eval=iS tm:=by funext x;cases x<;>rfl
theorem iX(fn:b8)(tm:Array Value)(ops:Array Oper)(i:Nat)(rest:List Nat)(k:List Item)(v:Value):(fN fn tm (.inRegion ops (i::rest)::k)).finish v=fN fn (eM ((ops[i]?).bind (·.dst)) tm v) (.inRegion ops rest::k):=by
 cases h:(ops[i]?).bind _<;>simp[gB,fN,eM,h]
theorem ep.eM(h:ep m t t')(d:Option Tmp){v O:Value}(U:VR m v O):ep m (Go.Proofs.YtocbogeoffeolaaGreatDoor.eM d t v) (Go.Proofs.YtocbogeoffeolaaGreatDoor.eM d t' O):=by
 cases d with
 |none=>exact h|some d=>exact h.set d U
theorem Km(h:ep m t t'){gl:Nat->Prop}(O:∀g,gl g->m.blk g=some g)(x:Operand)(U:dP m.fw gl x):VR m (iS t x) (iS t' x):=by
 cases x with
 |tmp i=>exact h.getD i|const v=>exact VR.plain U|global g=>exact .ptr (.mk (O g U))|func f=>exact .J4 (.func f U) (.nil m) (.nil m)
theorem dl.tape{τ:Nat->Question->Nat}(h:dl E os (tp wl τ) V):dl E os wl V:=by
 intro m Pd ρ gs w sl t fr' cs' W O U Y h0;exact h m Pd ρ gs w sl t fr' cs' W ⟨O.main.tp τ,O.at_,O.out,O.d0,O.dd,O.cc,O.s0,O.ss,O.My,O.low,O.hears,O.kw,O.clean,O.fix,O.f0,O.ff,O.cx,O.sz,O.os,O.kn,O.pd,O.len⟩ U Y h0
theorem dl.ctl{td O:List Item}(h:∀U cs' w,b5 P true (G (fN fn U td) cs') w=.go (G (fN fn U O) cs') w #[])(Y:dl E (⟨fn,tm,O⟩::os) wl V):dl E (⟨fn,tm,td⟩::os) wl V:=by
 refine dl.step (N:=λo w=>o=⟨fn,tm,O⟩::os/\w=wl) (λm w fr' cs' hr ho hw=>?_) (λo w ⟨h1,h2⟩=>by rw[h1,h2];exact Y)
 cases ho with
 |@cons _ _ U l ht W=>exact⟨m,_,_,w,#[],_,wl,h U cs' w,.refl m,.refl m w,by simp,.cons (o:=⟨fn,tm,O⟩) ht W,hw,rfl,rfl⟩
theorem dl.skip(h:dl E (⟨fn,tm,k⟩::os) wl V):dl E (⟨fn,tm,.code .skip::k⟩::os) wl V:=dl.ctl (λ_ _ _=>rfl) h
theorem dl.seq(h:dl E (⟨fn,tm,.code x::.code y::k⟩::os) wl V):dl E (⟨fn,tm,.code (.seq x y)::k⟩::os) wl V:=dl.ctl (λ_ _ _=>rfl) h
theorem dl.block(h:dl E (⟨fn,tm,.code x::.inBlock id::k⟩::os) wl V):dl E (⟨fn,tm,.code (.block id x)::k⟩::os) wl V:=dl.ctl (λ_ _ _=>rfl) h
theorem dl.inBlock(h:dl E (⟨fn,tm,k⟩::os) wl V):dl E (⟨fn,tm,.inBlock id::k⟩::os) wl V:=dl.ctl (λ_ _ _=>rfl) h
theorem dl.loop(h:dl E (⟨fn,tm,.code x::.inLoop x::k⟩::os) wl V):dl E (⟨fn,tm,.code (.loop x)::k⟩::os) wl V:=dl.ctl (λ_ _ _=>rfl) h
theorem dl.inLoop(h:dl E (⟨fn,tm,.code x::.inLoop x::k⟩::os) wl V):dl E (⟨fn,tm,.inLoop x::k⟩::os) wl V:=dl.ctl (λ_ _ _=>rfl) h
theorem dl.exit{k':List Item}(e:exitTo id k=some k')(h:dl E (⟨fn,tm,k'⟩::os) wl V):dl E (⟨fn,tm,.code (.exit id)::k⟩::os) wl V:=
 dl.ctl (λ_ _ _=>by simp[b5,fB,G,fN,e]) h
theorem dl.region(h:dl E (⟨fn,tm,.inRegion ops (cX ops.size)::k⟩::os) wl V):dl E (⟨fn,tm,.code (.region id ops false)::k⟩::os) wl V:=
 dl.ctl (λ_ _ _=>by simp[b5,fB,G,fN]) h
theorem dl.inRegion(h:dl E (⟨fn,tm,k⟩::os) wl V):dl E (⟨fn,tm,.inRegion ops []::k⟩::os) wl V:=dl.ctl (λ_ _ _=>rfl) h
theorem dl.cond{c:Operand}{b:Bool}(Y:uB c)(e:iS tm c=.bool b)(h:dl E (⟨fn,tm,.code (if b then x else y)::k⟩::os) wl V):dl E (⟨fn,tm,.code (.cond c x y)::k⟩::os) wl V:=by
 refine dl.step (N:=λo w=>o=⟨fn,tm,.code (if b then x else y)::k⟩::os/\w=wl) (λm w fr' cs' hr ho hw=>?_) (λo w ⟨h1,h2⟩=>by rw[h1,h2];exact h)
 cases ho with
 |@cons _ _ O l ht U=>
  refine⟨m,_,_,w,#[],_,wl,?_,.refl m,.refl m w,by simp,.cons (o:=⟨fn,tm,.code (if b then x else y)::k⟩) ht U,hw,rfl,rfl⟩
  have hv:(fN fn O (.code (.cond c x y)::k)).eval c=.bool b:=by
   cases c with
   |tmp i=>
    have:=ht.getD i;have e:tm.getD i hU=.bool b:=e;rw[e]at this;generalize hq:O.getD i hU=q at this;cases this;exact hq
   |const v=>exact e|global g=>exact Y.elim|func f=>exact Y.elim
  have W:Frame.eval ⟨fn,O,.code _::k,[],.run,.normal,none⟩ c=.bool b:=hv;simp[b5,fB,G,fN,W]
theorem dl.Ru(h:∀t,dl E (⟨fn,tm,.inRegion ops (fm (P.follows .mixedOrders) ops t)::k⟩::os) wl V):dl E (⟨fn,tm,.code (.region id ops true)::k⟩::os) wl V:=by
 refine dl.step (N:=λo w=>∃t,o=⟨fn,tm,.inRegion ops (fm (P.follows .mixedOrders) ops t)::k⟩::os/\w=wl) (λm w fr' cs' hr U W=>?_) (λo w ⟨t,Y,h2⟩=>by rw[Y,h2];exact h t)
 cases U with
 |@cons _ _ aa l ht O=>
  obtain⟨t,d,e⟩:∃t d,(choose (.order fn id)).run P w=.ok t (w.at d):=by
   by_cases hf:(Question.order fn id).forced=true;exact⟨0,w.drawn,by simp[choose,hM,hf,World.at]⟩;exact⟨_,w.drawn+1,by rfl⟩
  refine⟨m,_,_,w.at d,#[],_,wl,?_,.refl m,fA.at m w d,by simp,.cons (o:=⟨fn,tm,.inRegion ops _::k⟩) ht O,W.at d,t,rfl,rfl⟩;simp[b5,fB,G,fN,e]
theorem lH{O:Array Value}{o:Oper}{cs':List Frame}{w:World}(hi:ops[i]?=some o)(U:fk o (b7 ops O)=true):b5 P true (G (fN fn O (.inRegion ops (i::rest)::k)) cs') w=ft P true (fN fn O (.inRegion ops (i::rest)::k)) cs' none (bD (iS O) o) w:=by
 have W:=NQ fn O (.inRegion ops (i::rest)::k);have:b5 P true (G (fN fn O (.inRegion ops (i::rest)::k)) cs') w=fB P true true (fN fn O (.inRegion ops (i::rest)::k)) cs' none w:=rfl;rw[this,<-W];unfold fB;simp only[fN,hi,cI,cJ,U,if_true];unfold b5.oper;simp only[Frame.oper?,hi]
theorem dl.pass{o:Oper}(hi:ops[i]?=some o)(Y:fk o (b7 ops tm)=false)(h:dl E (⟨fn,eM o.dst tm hU,.inRegion ops rest::k⟩::os) wl V):dl E (⟨fn,tm,.inRegion ops (i::rest)::k⟩::os) wl V:=by
 refine dl.step (N:=λo w=>dl E o w V) (λm w fr' cs' hr W hw=>?_) (λo w h=>h)
 cases W with
 |@cons _ _ O l ht aa=>
  have hy:fk o (b7 ops O)=false:=by rw[show b7 ops O=b7 ops tm from funext (lK ops ht)];exact Y
  have U:=iX fn O ops i rest k hU;simp only[hi,cG]at U
  have ab:b5 P true (G (fN fn O (.inRegion ops (i::rest)::k)) cs') w=.go (G (fN fn (eM o.dst O hU) (.inRegion ops rest::k)) cs') w #[]:=by
   rw[<-U];have:b5 P true (G (fN fn O (.inRegion ops (i::rest)::k)) cs') w=fB P true true (fN fn O (.inRegion ops (i::rest)::k)) cs' none w:=rfl;rw[this];unfold fB;simp only[fN,hi,cI,cJ,hy,en,if_false,G]
  exact⟨m,_,_,w,_,_,wl,ab,.refl m,.refl m w,by simp,.cons (o:=⟨fn,eM _ tm hU,.inRegion ops rest::k⟩) (ht.eM _ (.undef m)) aa,hw,h⟩
end
variable {S:LS} {Tc:List Frame} {w:World}
section
variable {P:Program} {E:Env P} {fn:b8} {tm:Array Value} {os:List OF} {wl:World} {V:List (Nat×Option (List Value))} {k:List Item}
def iT(E:Env P)(S:LS)(os:List OF)(V:List (Nat×Option (List Value))):Prop:=
 ∀m(Pd:Nat->Prop)ρ gs w sl t fr' cs' Tc,Rg E m->Co P E.fC E.w0 Pd ρ m S.w gs w t->RR m ρ Pd V->nR m E.T os Tc->dR P m Tc (S.fr::S.cs) (fr'::cs')->gs[0]?=some (G fr' cs')->E.Z.Up (bZ gs w sl) t
theorem Co.tape{fC:Nat->Prop}{w0:World}{Pd:Nat->Prop}{ρ:Nat->eA}{gs:Array Goroutine}{t:b9}(O:Co P fC w0 Pd ρ m wl gs w t)(τ:Nat->Question->Nat):Co P fC w0 Pd ρ m (tp wl τ) gs w t:=
 ⟨O.main.tp τ,O.at_,O.out,O.d0,O.dd,O.cc,O.s0,O.ss,O.My,O.low,O.hears,O.kw,O.clean,O.fix,O.f0,O.ff,O.cx,O.sz,O.os,O.kn,O.pd,O.len⟩
theorem iT.tape{τ:Nat->Question->Nat}(h:iT E (S.on τ) os V):iT E S os V:=by
 intro m Pd ρ gs w sl t fr' cs' Tc W Y O ho U h0;exact h m Pd ρ gs w sl t fr' cs' Tc W (Y.tape τ) O ho U h0
theorem Rg.rS{fr':Frame}{cs':List Frame}(h:Rg E m)(O:dR P m Tc (S.fr::S.cs) (fr'::cs'))(U:WR m S.w w):wF P E.gl E.st m Tc S fr' cs' w:=⟨h.pA,h.il,h.open,O,U⟩
theorem iT.nu{Stop:LS->Prop}(hB:yJ Stop)(hH:lF P Stop S)(hn:∀S',Stop S'->iT E S' os V):iT E S os V:=by
 intro m Pd ρ gs w sl t fr' cs' Tc hr hc ac ho Y h0;have ae:=hH.acc hB ⟨_,_,_,_,_,_,_,hr.rS Y hc.main⟩;revert m Pd ρ gs w sl t fr' cs' Tc hH;induction ae with
 |intro S _ ih=>
  intro hH m Pd ρ gs w sl t fr' cs' Tc hr hc ac ho Y h0;by_cases O:Stop S;exact hn S O m Pd ρ gs w sl t fr' cs' Tc hr hc ac ho Y h0;refine turn (Z:=E.Z) (a:=G fr' cs') (K:=λj=>(ρ j).sum) (N:=gs.size) rfl ?_ ρ gs w sl t hc (λ_=>rfl) h0 rfl;intro ρ' gs' w' ao af d t' aa hK ag hN;have ab:=hr.rS Y aa.main;have ah:=ab.Ue hB hH O true;generalize aj:b5 P true .. = sg at ah
  cases ah with
  |@go S' dx U W w₁ es hg hl ai hk he=>
   have ak:=bW (P:=P) (sl:=af) (i:=0) ag (show b5 P .. = _ from aj);rw[ak];refine E.Z.next _ _ _ _ ?_;have al:=(bm.1 ag).1;exact ih S' hg (hH.own hB ⟨_,_,_,_,_,_,_,ab⟩ hg).2 dx Pd ρ' _ _ af _ U W Tc (hr.le hl hk) (aa.xb (gs':=(gs'.map _).setIfInBounds 0 _) hl hk he ai.world (by simp) (gF _)) (ac.le hl hK) (ho.mono hl) ai.stack (by simp[al])
  |@send S' dx U W w₁ es r r' v v' z' hg hl hp hk he=>
   obtain⟨f0,ap,cap,buf,gI,an,aq,_,_,am,hx,ad⟩:=hp.rS;have:=(am.kI r _ ((hr.le hl hk).mz r r' hp.ch)).1;rw[hx]at this;cases this;simp at ad
theorem nR.head{T:List Frame}{o:OF}{l:List Frame}(h:nR m T (o::os) l):∃O W,l=fN o.fn O o.td::W/\ep m o.tm O/\nR m T os W:=by
 cases h with
 |cons Y U=>exact⟨_,_,rfl,Y,U⟩
def vd(E:Env P)(os:List OF):Prop:=os≠[]\/∀ps,E.T=[ps]->ps.mode≠.panicking [bB]
theorem tL(O:vd E os)(h:nR m E.T os Tc):∀ps,Tc=[ps]->ps.mode≠.panicking [bB]:=by
 cases h with
 |nil=>
  rcases O with x|x
  exact absurd rfl x;exact x
 |cons W U=>
  rintro ps e;cases e;simp[fN]
theorem iT.ret{v:Value}{ops:Array Oper}{i:Nat}{rest:List Nat}{o:Oper}(hi:ops[i]?=some o)(ao:S.cs=[door P])(hl:S.fr.leaving P S.w (.returned v))(h:dl E (⟨fn,eM o.dst tm v,.inRegion ops rest::k⟩::os) S.w V):iT E S (⟨fn,tm,.inRegion ops (i::rest)::k⟩::os) V:=by
 intro m Pd ρ gs w sl t fr' cs' Tc ap aq ar aa ad h0;refine turn (Z:=E.Z) (a:=G fr' cs') (K:=λj=>(ρ j).sum) (N:=gs.size) rfl ?_ ρ gs w sl t aq (λ_=>rfl) h0 rfl;intro ρ' gs' w' a0 aj d t' O hK ak hN;obtain⟨hm,hd,hk,f,hf,U⟩:=hl;have hF:=ad.qc;rw[ao]at ad;have ae:=tL (E:=E) (.inl (by simp)) aa;obtain⟨W,l',rfl,ht,au⟩:=aa.head
 obtain⟨rfl,af⟩:cs'=fN fn W _::l'/\fr'.kind=.normal:=by
  cases ad with
  |one _ _ hb _=>
   refine⟨rfl,?_⟩;rcases hb with⟨x,_⟩|⟨_,ps,e,x⟩
   exact x;exact absurd x (ae ps e)
  |cons _ _ _ hx=>cases hx
 have Y:=hF.mode;have ab:=hF.defers;rw[hm]at Y;rw[hd]at ab;have av:=hF.fn;have al:=hF.tmps;obtain⟨a3,ag,ah,a4,a5,a6,ai⟩:=fr';cases Y;cases ab;subst af av;have am:=(lJ (P:=P) (fn:=f) al).run _ _ #[] (O.main.tp _) (.inl (oI _ _))
 have aw:(bM f S.fr.tmps).run P (tp S.w (along S.w (w'.at d)))=.ok v (tp S.w (along S.w (w'.at d))):=by
  have an:=(lJ (P:=P) (fn:=f) al).loc _ _ O.main;rcases an with⟨x,w₁,e,_⟩|⟨_,_,h3⟩
  rw[U]at e;cases e;have:=h3 (along S.w (w'.at d)) (by rw[U];intro i a b;simp only[CH]at b;omega);rw[U]at this;exact this
 rw[aw]at am;obtain⟨dx,v',w₁,es₁,e1,e2,e3,e4,_,e6,e7⟩:=am;have ac:=iX fn W ops i rest k v';simp only[hi,cG]at ac
 have ax:b5 P true (G ⟨S.fr.fn,ag,ah,[],.returning,.normal,ai⟩ (fN fn W (.inRegion ops (i::rest)::k)::l')) (w'.at d)=.go (G (fN fn (eM o.dst W v') (.inRegion ops rest::k)) l') w₁ (bN P S.fr.fn es₁):=by
  have:b5 P true (G ⟨S.fr.fn,ag,ah,[],.returning,.normal,ai⟩ (fN fn W (.inRegion ops (i::rest)::k)::l')) (w'.at d)=bA P true ⟨S.fr.fn,ag,ah,[],.returning,.normal,ai⟩ _ none _:=rfl;rw[this];unfold bA;simp only[hf,e1];unfold bJ;simp only[ac];simp[ge,G]
 have ay:=bW (P:=P) (sl:=aj) (i:=0) ak (show b5 P _ _ _=_ from ax);rw[ay];refine E.Z.next _ _ _ _ ?_;have az:=(bm.1 ak).1;exact(dl.tape (τ:=along S.w (w'.at d)) (wl:=S.w) (λm Pd ρ gs w sl t fr' cs' a b c d e=>h m Pd ρ gs w sl t fr' cs' a (b.tape _) c d e)) dx Pd ρ' _ _ aj _ _ _ (ap.le e2 e6) ((O.xb (gs':=(gs'.map _).setIfInBounds 0 _) e2 e6 (λe he=>e7 e (cn he)) e4 (by simp) (gF _)).tape _) (ar.le e2 hK) (.cons (o:=⟨fn,eM _ tm v,.inRegion ops rest::k⟩) ((ht.mono e2).eM _ e3) (au.mono e2)) (by simp[az])
end
variable {ars:Array Operand} {ts:Array bH} {tm1:Array Value} {c:Code} {gO:Func} {f f1:b8} {v:Value}
section
variable {P:Program} {E:Env P} {fn:b8} {tm:Array Value} {os:List OF} {wl:World} {V:List (Nat×Option (List Value))} {k:List Item}
theorem Fc(P:Program)(W:P.funcs[f]?=some gO)(hb:gO.body=some c)(Y:gO.name≠ "runtime.NumGoroutine") (ρ:Operand->Value) (O:ρ (.func f)=.func (.func f) #[] #[]) {o:Oper} (ho:o.op=.call {callee:=.value (.func f),args:=ars,argTypes:=ts}) (w:World):(bD ρ o).runT P w #[]=(.ok (.enter f (ars.map ρ)) w,#[]):=by
 obtain⟨d,op,ty,ps,af,g⟩:=o;subst ho;have U:(gO.name == "runtime.NumGoroutine")=false:=by simpa using Y
 have e:bD ρ ⟨d,.call {callee:=.value (.func f),args:=ars,argTypes:=ts},ty,ps,af,g⟩=callFunc f ((#[]++ars.map ρ)++#[]):=by
  simp only[bD,resolve,O,Deferred.ofValue,invoke];rfl
 rw[e,bu];unfold callFunc;have e2:∀k:Program->Sem Go.Next,(program >>= k).runT P w #[]=(k P).runT P w _:=λk=>rfl;rw[e2];simp only[W,U,hb,en,if_false,Option.isNone_some];rfl
theorem dl.outer{i:Nat}{rest:List Nat}{o:Oper}(hi:ops[i]?=some o)(aa:fk o (b7 ops tm)=true)(hf:P.funcs[f]?=some gO)(hb:gO.body=some c)(hn:gO.name≠ "runtime.NumGoroutine") (ho:o.op=.call {callee:=.value (.func f),args:=ars,argTypes:=ts}) (ab:∀x∈ars.toList,dP E.fw E.gl x)
  (h:dl E (⟨f,ars.map (iS tm)++bo (gO.ntmps-ars.size) hU,[.code c]⟩::⟨fn,tm,.inRegion ops (i::rest)::k⟩::os) wl V):dl E (⟨fn,tm,.inRegion ops (i::rest)::k⟩::os) wl V:=by
 refine dl.step (N:=λo w=>dl E o w V) (λm w fr' cs' hr U hw=>?_) (λo w h=>h);have W:=U
 cases U with
 |@cons _ _ O l ht ae=>
  have hy:fk o (b7 ops O)=true:=by rw[show b7 ops O=b7 ops tm from funext (lK ops ht)];exact aa
  have ac:=lH (P:=P) (fn:=fn) (k:=k) (rest:=rest) (cs':=cs') (w:=w) hi hy;have Y:=Fc P hf hb hn (iS O) rfl ho w;have ha:=kh (fw:=m.fw) (gl:=E.gl) (λx hx=>Km ht hr.pA.ou x hx) (λx hx=>by rw[hr.fw];exact ab x hx)
  have ad:ft P true (fN fn O (.inRegion ops (i::rest)::k)) cs' none (bD (iS O) o) w=.go (G (fN f (ars.map (iS O)++bo (gO.ntmps-ars.size) hU) [.code c]) (fN fn O (.inRegion ops (i::rest)::k)::cs')) w #[]:=by
   unfold ft;simp only[if_true,Y];simp[ge,G,fN,g9,hf,hb,bN]
  exact⟨m,_,_,w,#[],_,wl,ac.trans ad,.refl m,.refl m w,by simp,.cons (o:=⟨f,ars.map _++bo _ hU,[.code c]⟩) (ha.append (.replicate _ (.undef m))) W,hw,h⟩
theorem KS{m:Ren}{Pd:Nat->Prop}{ρ:Nat->eA}{gs:Array Goroutine}{w:World}{sl:Option (Nat×Nat)}{t:b9}{U:Array Value}{td1:List Item}{l':List Frame}{i:Nat}{rest:List Nat}{o:Oper}{O:Array Value}{f:Func}
  (ae:Rg E m) (af:Co P E.fC E.w0 Pd ρ m wl gs w t) (ag:RR m ρ Pd V) (ah:ep m tm1 U) (ht:ep m tm O) (ai:nR m E.T os l') (hf:P.funcs[f1]?=some f) (hi:ops[i]?=some o) (aa:∀τ,(bM f tm1).run P (tp wl τ)=.ok v (tp wl τ))
  (h0:gs[0]?=some (G ⟨f1,U,td1,[],.returning,.normal,none⟩ (fN fn O (.inRegion ops (i::rest)::k)::l'))) (h:dl E (⟨fn,eM o.dst tm v,.inRegion ops rest::k⟩::os) wl V):E.Z.Up (bZ gs w sl) t:=by
 refine turn (Z:=E.Z) (a:=G ..) (K:=λj=>(ρ j).sum) (N:=gs.size) rfl ?_ ρ gs w sl t af (λ_=>rfl) h0 rfl;intro ρ' gs' w' am ab d t' W hK ac hN;have ad:=(lJ (P:=P) (fn:=f) ah).run _ _ #[] (W.main.tp _) (.inl (oI wl _));rw[aa]at ad;obtain⟨dx,v',w₁,es₁,e1,e2,e3,e4,_,e6,e7⟩:=ad;have Y:=iX fn O ops i rest k v';simp only[hi,cG]at Y
 have aj:b5 P true (G ⟨f1,U,td1,[],.returning,.normal,none⟩ (fN fn O (.inRegion ops (i::rest)::k)::l')) (w'.at d)=.go (G (fN fn (eM o.dst O v') (.inRegion ops rest::k)) l') w₁ (bN P f1 es₁):=by
  have:b5 P true (G ⟨f1,U,td1,[],.returning,.normal,none⟩ (fN fn O (.inRegion ops (i::rest)::k)::l')) (w'.at d)=bA P true ⟨f1,U,td1,[],.returning,.normal,none⟩ _ none _:=rfl;rw[this];unfold bA;simp only[hf,e1];unfold bJ;simp only[Y];simp[ge,G]
 have ak:=bW (P:=P) (sl:=ab) (i:=0) ac (show b5 P .. = _ from aj);rw[ak];refine E.Z.next _ _ _ _ ?_;have al:=(bm.1 ac).1;exact h dx Pd ρ' _ _ ab _ _ _ (ae.le e2 e6) ((W.xb (gs':=(gs'.map _).setIfInBounds 0 _) e2 e6 (λe he=>e7 e (cn he)) e4 (by simp) (gF _)).tape _) (ag.le e2 hK) (.cons (o:=⟨fn,eM _ tm v,.inRegion ops rest::k⟩) ((ht.mono e2).eM _ e3) (ai.mono e2)) (by simp[al])
theorem dl.back{td1:List Item}{i:Nat}{rest:List Nat}{o:Oper}{f:Func}(ac:td1=[]\/∃k1,td1=.code .ret::k1)(hf:P.funcs[f1]?=some f)(hi:ops[i]?=some o)(W:∀τ,(bM f tm1).run P (tp wl τ)=.ok v (tp wl τ))
  (h:dl E (⟨fn,eM o.dst tm v,.inRegion ops rest::k⟩::os) wl V):dl E (⟨f1,tm1,td1⟩::⟨fn,tm,.inRegion ops (i::rest)::k⟩::os) wl V:=by
 intro m Pd ρ gs w sl t fr' cs' ad ae af O h0;refine turn (Z:=E.Z) (a:=G fr' cs') (K:=λj=>(ρ j).sum) (N:=gs.size) rfl ?_ ρ gs w sl t ae (λ_=>rfl) h0 rfl;intro ρ' gs' w' am ag d t' U hK Y hN
 cases O with
 |@cons _ _ aa l ah O=>
  obtain⟨ab,l',rfl,ht,ai⟩:=O.head
  have aj:b5 P true (G (fN f1 aa td1) (fN fn ab (.inRegion ops (i::rest)::k)::l')) (w'.at d)=.go (G ⟨f1,aa,td1,[],.returning,.normal,none⟩ (fN fn ab (.inRegion ops (i::rest)::k)::l')) (w'.at d) #[]:=by
   rcases ac with rfl|⟨k1,rfl⟩<;>rfl
  have ak:=bW (P:=P) (sl:=ag) (i:=0) Y (show b5 P .. = _ from aj);rw[ak];refine E.Z.next _ _ _ _ ?_;have al:=(bm.1 Y).1;exact KS (td1:=td1) ad (U.xb (gs':=(gs'.map _).setIfInBounds 0 _) (.refl m) (.refl m _) (by simp) U.main (by simp) (gF _)) (af.le (.refl m) hK) ah ht ai hf hi W (by simp[al]) h
def y9(ok:Oper->Prop):Item->Prop
 |.code c|.inLoop c|.inScope c=>fF ok c|.inBlock _=>True|.inRegion ops _=>∀o∈ops.toList,ok o|_=>False
theorem y9.R{m:Ren}:∀{td:List Item},(∀x∈td,y9 m.ok x)->dQ (jw m) td td
 |[],_=>.nil
 |x::td,h=>by
  refine .cons ?_ (y9.R λy U=>h y (by simp[U]))
  have O:=h x (by simp)
  cases x with
  |code c=>exact .code c O|inLoop c=>exact .inLoop c O|inScope c=>exact .inScope c O|inBlock i=>exact .inBlock i|inRegion ops t=>exact .inRegion ops t O|_=>exact O.elim
theorem dl.tail{td:List Item}(aa:∀x∈td,y9 E.ok x)(O:vd E os)(h:iT E ⟨fN fn tm td,[door P],wl⟩ os V):dl E (⟨fn,tm,td⟩::os) wl V:=by
 intro m Pd ρ gs w sl t fr' cs' U ab ac W h0;obtain⟨ad,l',e,ht,Y⟩:=W.head;cases e;exact h m Pd ρ gs w sl t _ _ cs' U ab ac Y (dR.one (fr:=fN fn tm td) (fr':=fN fn ad td) ⟨rfl,ht,y9.R (by rw[U.Si];exact aa),.nil,.run,.none⟩ rfl (.inl ⟨rfl,tL O Y⟩) rfl) h0
end
section
variable {P:Program} {Post:Value->World->Prop}
def tO(P:Program)(Post:Value->World->Prop)(M:Machine)(t:b9):Prop:=∃N last o w' t',runNT P (N+1) M t=(.ended o w',t')/\bE P N M=.next last/\step P last=.ended o w'/\Good P Post last o w' t'
theorem AZ{M:Machine}{r:Stepped}{ops:Array MemOp}(h:bQ P M=(r,ops)):step P M=r:=by unfold step;rw[h]
def ending(P:Program)(Post:Value->World->Prop):jN P where
 Up:=tO P Post
 Fin:=λM r t=>match r with
  |(.next O,ops)=>tO P Post O (t++ops)|(.ended o w',ops)=>Good P Post M o w' (t++ops)
 back:=by
  intro M t h
  rcases hs:bQ P M with⟨r,ops⟩
  rw[hs]at h
  cases r with
  |next O=>
   obtain⟨N,last,o,w',t',U,W,Y,h4⟩:=h
   refine⟨N+1,last,o,w',t',?_,?_,Y,h4⟩
   .rw[runNT,hs];exact U
   .simp only[bE,AZ hs];exact W
  |ended o w'=>exact⟨0,M,o,w',t++ops,by rw[runNT,hs],rfl,AZ hs,h⟩
 next:=λ_ _ _ _ h=>h
variable {fC:Nat->Prop} {w0:World} {Pd:Nat->Prop} {ρ:Nat->eA} {m:Ren} {wl:World} {gs:Array Goroutine} {w:World} {t:b9}
theorem Co.over(h:Co P fC w0 Pd ρ m wl gs w t)(O:∀i,(ρ i).sum=none):lP t λ_=>False:=h.kw.mono λi hi=>absurd (O i) hi
theorem Co.lv(h:Co P fC w0 Pd ρ m wl gs w t)(Y:∀i,(ρ i).sum=none){i:Nat}{g:Goroutine}(hi:0<i)(hg:gs[i]?=some g):∃q,Lv P q g:=by
 have U:=h.at_ i g hi hg;have W:=Y i
 cases O:ρ i with
 |quit q=>rw[O]at U;exact⟨q,U⟩|ended hd J m S q=>rw[O]at U;exact⟨q,U.1⟩|act=>rw[O]at W;cases W
 |jk=>rw[O]at W;cases W
 |start=>rw[O]at W;cases W
theorem iT.done{E:Env P}(hZ:E.Z=ending P Post)(hT:E.T=[]){S:LS}(an:S.cs=[door P])(hl:S.fr.leaving P S.w (.returned v))(ao:P.inits.idxOf? S.fr.fn=none)
  (af:∀m v' w,Rg E m->VR m v v'->WR m S.w w->(∀b,E.fC b->w.heap[b]?=E.w0.heap[b]?)->(w.os=E.w0.os/\w.output=E.w0.output)->Post v' w):iT E S [] []:=by
 intro m Pd ρ gs w sl t fr' cs' Tc ap aq ar aj ag h0
 have hn:∀i,(ρ i).sum=none:=by
  intro i
  cases e:(ρ i).sum with
  |none=>rfl|some x=>
   obtain⟨r,vs,hx,_⟩:=ar.only i x.1 x.2 e;cases hx
 refine turn (Z:=E.Z) (a:=G fr' cs') (K:=λj=>(ρ j).sum) (N:=gs.size) rfl ?_ ρ gs w sl t aq (λ_=>rfl) h0 rfl;intro ρ' gs' w' au av d t' U hK aw hN;have ah:∀i,(ρ' i).sum=none:=λi=>(hK i).trans (hn i);obtain⟨hm,hd,hk,f,hf,W⟩:=hl;have hF:=ag.qc;rw[an]at ag
 obtain rfl:Tc=[]:=by
  cases aj;exact hT
 obtain⟨rfl,ai⟩:cs'=[]/\fr'.kind=.normal:=by
  cases ag with
  |one _ _ hb _=>
   refine⟨rfl,?_⟩;rcases hb with⟨x,_⟩|⟨_,ps,e,x⟩
   exact x
   cases e
  |cons _ _ _ hx=>cases hx
 have Y:=hF.mode;have ae:=hF.defers;rw[hm]at Y;rw[hd]at ae;have ax:=hF.fn;have ak:=hF.tmps;obtain⟨a3,aa,ab,a4,a5,a6,ac⟩:=fr';cases Y;cases ae;subst ai ax;have al:=(lJ (P:=P) (fn:=f) ak).run _ _ #[] (U.main.tp _) (.inl (oI _ _))
 have ay:(bM f S.fr.tmps).run P (tp S.w (along S.w (w'.at d)))=.ok v (tp S.w (along S.w (w'.at d))):=by
  have am:=(lJ (P:=P) (fn:=f) ak).loc _ _ U.main;rcases am with⟨x,w₁,e,_⟩|⟨_,_,h3⟩
  rw[W]at e;cases e;have:=h3 (along S.w (w'.at d)) (by rw[W];intro i a b;simp only[CH]at b;omega);rw[W]at this;exact this
 rw[ay]at al;obtain⟨dx,v',w₁,es₁,e1,e2,e3,e4,_,e6,e7⟩:=al
 have az:b5 P true (G ⟨S.fr.fn,aa,ab,[],.returning,.normal,ac⟩ []) (w'.at d)=.ended (.done v') w₁ (bN P S.fr.fn es₁):=by
  have:b5 P true (G ⟨S.fr.fn,aa,ab,[],.returning,.normal,ac⟩ []) (w'.at d)=bA P true ⟨S.fr.fn,aa,ab,[],.returning,.normal,ac⟩ [] none _:=rfl;rw[this];unfold bA;simp only[hf,e1];unfold bJ;simp[ge,ao]
 have a0:=runT_many_ended (P:=P) (sl:=av) (i:=0) aw (show b5 P _ _ _=_ from az);rw[a0,hZ];have O:=U.xb (gs':=gs') (fn:=S.fr.fn) (pos:=(G (⟨S.fr.fn,aa,ab,[],.returning,.normal,ac⟩) []).frame.place) e2 e6 (es:=bN P S.fr.fn es₁) (λe he=>e7 e (cn he)) e4 rfl (λj x _ hx=>⟨x,hx,λ_=>rfl⟩);have ad:=ap.le e2 e6;refine⟨v',rfl,af dx v' w₁ ad e3 (e4.tp _) (λb hb=>(O.fix b hb).2) O.os,O.clean,(O.over ah).over,⟨λx hx=>?_,rfl⟩,λj x hx hj=>?_⟩;obtain⟨j,hj⟩:=cQ.1 hx;rw[List.getElem?_drop]at hj;obtain⟨q,hq⟩:=O.lv ah (i:=1+j) (by omega) (by simpa[bZ]using hj);exact⟨_,hq.Fo.leaves⟩;obtain⟨q,hq⟩:=O.lv ah (i:=j) (by omega) hx;refine⟨q,?_⟩
 have e:∀u,lu u->g6 P (bZ gs' w' au).world q x (u.deaf j u.size)=some 0:=λu hu=>by
  rw[hu.deaf j _];exact hq.Fo.hears _
 exact e _ O.hears
end
end
section
open Go.Conc
open Go.ConcN (upd upd_same upd_ne)
section
variable {P:Program} {fC:Nat->Prop} {w0:World} {Pd:Nat->Prop} {ρ:Nat->eA} {m m₂:Ren} {wl wl₂:World} {gs gs':Array Goroutine} {w w₁:World} {t:b9}
theorem Lo{h:Array Obj}{o x:Obj}{r:Nat}(O:h[r]?=some x):(h.push o)[r]?=h[r]?:=eL (jE O)
theorem Co.made(h:Co P fC w0 Pd ρ m wl gs w t)(U:w₁={w with heap:=w.heap.push (.chan 0 #[] false 0 0 false)})(ab:WR m₂ wl₂ w₁)(hb:m₂.blk=m.blk)(hl:m₂.loose=m.loose)(ac:gs'.size=gs.size)
  (ad:∀j x,0<j->gs'[j]?=some x->∃y,gs[j]?=some y/\(At P w₁ t j y (ρ j)->x=y)):Co P fC w0 (λc=>Pd c\/c=w.heap.size) ρ m₂ wl₂ gs' w₁ t:=by
 subst U;have O:w.heap.size<=(w.heap.push (.chan 0 #[] false 0 0 false)).size:=by simp
 have hrel:∀j y,0<j->gs[j]?=some y->At P {w with heap:=w.heap.push (.chan 0 #[] false 0 0 false)} t j y (ρ j):=by
  intro j y hj hy
  have:=(h.at_ j y hj hy).rely (w₁:={w with heap:=w.heap.push _}) (u:=#[]) (λm' W r b hb=>by
   obtain⟨wl',ae⟩:=h.wr W
   exact eL (ae.lt hb).2) (λJ hJ=>by
   obtain⟨cl,s,r,Y⟩:=h.is hJ
   exact Lo Y) O rfl (by simp)
  simpa using this
 refine⟨ab,λj x aa Y=>?_,λj hj=>h.out j (by rw[<-ac];exact hj),λi m' W=>?_,h.dd,h.cc,?_,h.ss,h.My,λp a b ha hb=>cY (h.low p a b ha hb) O,h.hears,h.kw,h.clean,λb hb=>?_,λr b hr hf=>?_,h.ff,h.cx,da h.sz O,h.os,h.kn,λc hc=>?_,h.len⟩;obtain⟨y,hy,af⟩:=ad j x aa Y;have:=hrel j y aa hy;rw[af this];exact this;have:=h.d0 i m' W;unfold nS at this⊢;rw[hb,hl];exact this;have:=h.s0;unfold ni at this⊢;rw[hb,hl];exact this;obtain⟨h1,h2⟩:=h.fix b hb;exact⟨cY h1 O,by rw[<-h2];exact eL h1⟩;rw[hb]at hr;rw[hl];exact h.f0 r b hr hf;rcases hc with hc|rfl
 obtain⟨⟨s,r,h1⟩,h2,h3,h4⟩:=h.pd c hc;exact⟨⟨s,r,iL h1⟩,h2,h3,h4⟩;refine⟨⟨0,0,by simp⟩,λp a ha hb=>?_,λi J hJ e=>?_,λhf=>?_⟩;have:=h.low p a _ ha hb;omega;obtain⟨cl,s,r,Y⟩:=h.is hJ;have:=jE Y;omega;have:=(h.fix _ hf).1;omega
theorem KC(h:Array Obj)(o:Obj):(h.push o).setIfInBounds h.size o=h.push o:=by
 apply Array.ext_getElem?;intro j;by_cases e:h.size=j;subst e;simp;rw[bl e]
theorem Co.spawn{Fix₂ Pd₂:Nat->Prop}{J:mJ}{mi:Ren}{S:LS}{k:Nat}{g' child:Goroutine}{a b:MemOp}(h:Co P fC w0 Pd ρ m wl gs w t)(h0:0<gs.size)(hF:∀b,Fix₂ b->fC b)(hP:∀c,Pd₂ c->Pd c/\c≠J.c)(hJ:Pd J.c)
  (ha:a.g=0) (ad:a.act=.go gs.size) (hb:b.g=gs.size) (ae:b.act=.start) (aj:WR m₂ wl₂ w) (ac:∀r q,m₂.blk r=some q->∃r0,m.blk r0=some q/\(m.loose r0->m₂.loose r))
  (ag:∀r q,mi.blk r=some q->(∃r0,m.blk r0=some q/\(m.loose r0->mi.loose r))\/(fC q/\(∀r0,m.blk r0≠some q)/\∀j m' r',(ρ j).mO=some m'->m'.blk r'≠some q)) (ak:nS m₂ mi) (al:∀r q,mi.blk r=some q->Fix₂ q->mi.loose r) (ah:∀b,fC b->Fix₂ b\/∃r o,J.kQ r b o/\w0.heap[b]?=some o)
  (am:At P w (t++#[a,b]) gs.size child (.start J mi S k)) :
  Co P Fix₂ w0 Pd₂ (cM ρ gs.size (.start J mi S k)) m₂ wl₂ ((gs.setIfInBounds 0 g').push child) w (t++#[a,b]):=by
 have hold:ρ gs.size=.quit 0:=h.out _ (.inr (cZ _))
 have hu:∀op∈(#[a,b]:Array MemOp),op.act.touch?=none:=by
  intro op Y;simp only[cR,cN,cO,or_false]at Y;rcases Y with rfl|rfl
  rw[ad];rfl;rw[ae];rfl
 have hh:lu (t++#[a,b]):=h.hears.append λop Y=>by
  simp only[cR,cN,cO,or_false]at Y;rcases Y with rfl|rfl
  rw[ad];simp;rw[ae];simp
 obtain⟨au,an,ai,ao⟩:=h.pd J.c hJ
 have di:∀j m',(ρ j).mO=some m'->nS mi m':=by
  intro j m' O r r' q W h2;rcases ag r q W with⟨r0,x,y⟩|⟨_,_,x⟩
  obtain⟨l1,l2⟩:=h.d0 j m' O r0 r' q x h2;exact⟨y l1,l2⟩;exact absurd h2 (x j m' r' O)
 have kr:∀j m',(cM ρ gs.size (.start J mi S k) j).mO=some m'->(j=gs.size/\m'=mi)\/(j≠gs.size/\(ρ j).mO=some m'):=λj m' U=>by
  by_cases e:j=gs.size;subst e;rw[cK]at U;cases U;exact .inl ⟨rfl,rfl⟩;rw[cL _ _ e]at U;exact .inr ⟨e,U⟩
 have kj:∀j J',(cM ρ gs.size (.start J mi S k) j).rR=some J'->(j=gs.size/\J'=J)\/(j≠gs.size/\(ρ j).rR=some J'):=λj J' U=>by
  by_cases e:j=gs.size;subst e;rw[cK]at U;cases U;exact .inl ⟨rfl,rfl⟩;rw[cL _ _ e]at U;exact .inr ⟨e,U⟩
 refine⟨aj,λj x ap U=>?_,λj hj=>?_,λj m' O=>?_,λj l m1 m2 ab W h2=>?_,λj l J1 J2 ab W h2=>?_,?_,λj m' O=>?_,λj J' aa p x U hq=>?_,λp x q U hq=>?_,hh,?_,λsaid=>?_,λq hq=>h.fix q (hF q hq),λr q hr hf=>?_,λj m' O r q hr hf=>?_,λj J' aa hf=>?_,h.sz,h.os,?_,λc hc=>?_,λb hb=>?_⟩;by_cases e:j=gs.size;subst e;rw[cK];have:((gs.setIfInBounds 0 g').push child)[gs.size]?=some child:=by rw[bv];simp
 rw[this]at U;cases U;exact am;rw[cL _ _ e]
 have av:j<gs.size:=by
  have:=(bm.1 U).1;simp at this;omega
 have:gs[j]?=some x:=by
  rw[bv]at U;simp only[Array.size_setIfInBounds]at U;rw[if_neg e,bl (by omega)]at U;exact U
 exact(h.at_ j x ap this).rely (λ_ _ _ _ _=>rfl) (λ_ _=>rfl) (cZ _) rfl λop Y _=>hu op Y
 have ab:j≠gs.size:=by
  rcases hj with x|x
  omega;simp at x;omega
 rw[cL _ _ ab];exact h.out j (hj.imp id λx=>by simp at x;omega);rcases kr j m' O with⟨_,em⟩|⟨_,O⟩
 rw[em];exact ak;intro r r' q W h2;obtain⟨r0,x,y⟩:=ac r q W;obtain⟨l1,l2⟩:=h.d0 j m' O r0 r' q x h2;exact⟨y l1,l2⟩;rcases kr j m1 W with⟨ej,em⟩|⟨ej,x1⟩
 rcases kr l m2 h2 with⟨el,_⟩|⟨_,x2⟩
 exact absurd (ej.trans el.symm) ab;rw[em];exact di l m2 x2;rcases kr l m2 h2 with⟨el,em⟩|⟨_,x2⟩
 rw[em];exact(di j m1 x1).symm;exact h.dd j l m1 m2 ab x1 x2;rcases kj j J1 W with⟨ej,em⟩|⟨ej,x1⟩
 rcases kj l J2 h2 with⟨el,_⟩|⟨_,x2⟩
 exact absurd (ej.trans el.symm) ab;rw[em];exact g8 (ai l J2 x2);rcases kj l J2 h2 with⟨el,em⟩|⟨_,x2⟩
 rw[em];exact ai j J1 x1;exact h.cc j l J1 J2 ab x1 x2;refine ni.mute (λp x q r U hq hr af=>?_) hu;obtain⟨r0,y,z⟩:=ac r q hr;exact h.s0 p x q r0 U hq y λl=>af (z l);by_cases e:j=gs.size;subst e;rw[cK]at O;cases O;intro p x q r U hq hr af;rcases dZ U with⟨_,W⟩|⟨op,W,_,h3⟩
 refine Fx hh ha ad hb ae ?_;rcases ag r q hr with⟨r0,y,z⟩|⟨y,_,z⟩
 exact h.s0 p x q r0 W hq y λl=>af (z l);rcases h.kn p x q W hq y with v|⟨j',m',r',v1,v2⟩
 exact v;exact absurd v2 (z j' m' r' v1);rw[hu op W]at h3;cases h3;rw[cL _ _ e]at O;exact(h.ss j m' O).mute hu;rcases dZ U with⟨_,W⟩|⟨op,W,_,h3⟩
 rcases kj j J' (eA.ux aa)with⟨_,em⟩|⟨e,_⟩
 rw[em]at hq;exact an p x W hq;rw[cL _ _ e]at aa;exact h.My j J' aa p x W hq;rw[hu op W]at h3;cases h3;rcases dZ U with⟨_,W⟩|⟨op,W,_,h3⟩
 exact h.low p x q W hq;rw[hu op W]at h3;cases h3;refine(h.kw.mono λj hj=>?_).app λop Y=>.inl (hu op Y);by_cases e:j=gs.size;subst e;rw[hold]at hj;exact absurd rfl hj;rw[cL _ _ e];exact hj;have:=rj (u:=[a,b]) (by simpa using hu) (h.clean said);simpa using this;obtain⟨r0,y,z⟩:=ac r q hr;exact z (h.f0 r0 q y (hF q hf));rcases kr j m' O with⟨_,em⟩|⟨_,O⟩
 rw[em]at hr⊢;exact al r q hr hf;exact h.ff j m' O r q hr (hF q hf);rcases kj j J' aa with⟨_,em⟩|⟨_,aa⟩
 rw[em]at hf;exact ao (hF _ hf);exact h.cx j J' aa (hF _ hf);intro p x q U hq hf;have hk:Kn fC (cM ρ _ (.start J mi S k)) _:=h.kn.app (λj m' r q O hq=>⟨j,m',r,by rw[cL _ _ (by rintro rfl;rw[hold]at O;cases O)];exact O,hq⟩) λop Y x q U _ _=>by rw[hu op Y]at U;cases U
 exact hk p x q U hq (hF q hf);obtain⟨aq,ar⟩:=hP c hc;obtain⟨g1,g2,g3,g4⟩:=h.pd c aq;refine⟨g1,λp x U hq=>?_,λj J' aa=>?_,λhf=>g4 (hF c hf)⟩;rcases dZ U with⟨_,W⟩|⟨op,W,_,h3⟩
 exact g2 p x W hq;rw[hu op W]at h3;cases h3;rcases kj j J' aa with⟨_,em⟩|⟨_,aa⟩
 rw[em];exact g8 ar;exact g3 j J' aa;rcases h.len b hb with x|⟨j,J',r,o,x1,x2⟩|z
 rcases ah b x with y|⟨r,o,y1,y2⟩
 exact .inl y;exact .inr (.inl ⟨gs.size,J,r,o,by rw[cK];rfl,y1,y2⟩);exact .inr (.inl ⟨j,J',r,o,by rw[cL _ _ (by rintro rfl;rw[hold]at x1;cases x1)];exact x1,x2⟩);exact .inr (.inr z)
end
end
section
open Go.Conc
open Go.ConcN (upd upd_same upd_ne)
variable {ops:Array Oper}
def jn:Obj:=.chan 0 #[] false 0 0 false
section
variable {P:Program} {E:Env P} {fn:b8} {tm:Array Value} {os:List OF} {wl:World} {V:List (Nat×Option (List Value))} {k:List Item}
theorem dl.makeChan{i:Nat}{rest:List Nat}{o:Oper}(hi:ops[i]?=some o)(aj:fk o (b7 ops tm)=true)
  (ak:∀(O:Array Value)(w:World),(bD (iS O) o).runT P w #[]=(.ok (.value (.chan (some w.heap.size))) {w with heap:=w.heap.push (.chan 0 #[] false 0 0 false)},#[]))
  (h:dl E (⟨fn,eM o.dst tm (.chan (some wl.heap.size)),.inRegion ops rest::k⟩::os) {wl with heap:=wl.heap.push jn} ((wl.heap.size,none)::V)):dl E (⟨fn,tm,.inRegion ops (i::rest)::k⟩::os) wl V:=by
 intro m Pd ρ gs w sl t fr' cs' W al am af h0;refine turn (Z:=E.Z) (a:=G fr' cs') (K:=λj=>(ρ j).sum) (N:=gs.size) rfl ?_ ρ gs w sl t al (λ_=>rfl) h0 rfl;intro ρ' gs' w' aw ag d t' ab hK ah hN
 cases af with
 |@cons _ _ O l ht an=>
  have hy:fk o (b7 ops O)=true:=by rw[show b7 ops O=b7 ops tm from funext (lK ops ht)];exact aj
  have ao:=lH (P:=P) (fn:=fn) (k:=k) (rest:=rest) (cs':=cs') (w:=w'.at d) hi hy;have ac:=iX fn O ops i rest k (.chan (some (w'.at d).heap.size));simp only[hi,cG]at ac
  have ap:ft P true (fN fn O (.inRegion ops (i::rest)::k)) cs' none (bD (iS O) o) (w'.at d)=.go (G (fN fn (eM o.dst O (.chan (some (w'.at d).heap.size))) (.inRegion ops rest::k)) cs') {w'.at d with heap:=(w'.at d).heap.push (.chan 0 #[] false 0 0 false)} #[]:=by
   unfold ft;simp only[if_true,ak,ac];simp[ge,G,fN,bN]
  have aq:=bW (P:=P) (sl:=ag) (i:=0) ah (show b5 P (0==0) _ (w'.at d)=_ from ao.trans ap);have e0:∀f p,de 0 f p #[]=#[]:=λf p=>by rw[cd];simp
  rw[aq,e0];refine E.Z.next _ _ _ _ ?_;have ar:=(bm.1 ah).1;have ae:=ab.main;let dx:=m.sQ _ _ ae.pW ae.n9;let m₂:=dx.put wl.heap.size jn;have U:m.Le m₂:=(Ren.xB _ _).trans (Ren.oD dx ..)
  have au:WR m₂ {wl with heap:=wl.heap.push jn} {w'.at d with heap:=(w'.at d).heap.push (.chan 0 #[] false 0 0 false)}:=by
   have:=(ae.Pr jn (.chan 0 #[] false 0 0 false)).put (r:=wl.heap.size) (o:=jn) ⟨_,_,_,_,_,_,rfl⟩ ⟨0,#[],false,0,0,false,by simp[jn]⟩;have e:({wl with heap:=wl.heap.push jn})={({wl with heap:=wl.heap.push jn})with heap:=(wl.heap.push jn).setIfInBounds wl.heap.size jn}:=by rw[KC]
   rw[e];exact this
  have ad:m₂.ch wl.heap.size=some (w'.at d).heap.size:=by simp[m₂,dx,Ren.put,Ren.sQ]
  have aa:Rg E m₂:=by
   refine⟨W.pA.mono U,by exact W.il,λr r' hr=>?_,U.fw.trans W.fw,U.ok.trans W.Si,E.le m m₂ U W.x⟩;by_cases e:r=wl.heap.size;subst e;simp[m₂,Ren.put,jn];have av:=by simpa[m₂,dx,Ren.put,Ren.sQ,e]using hr
   simpa[m₂,dx,Ren.put,Ren.sQ,e]using W.mz r r' av
  have ai:=ab.made (m₂:=m₂) (gs':=(gs'.map (woken P (G (fN fn O (.inRegion ops (i::rest)::k)) cs') (G (fN fn (eM o.dst O (.chan (some (w'.at d).heap.size))) (.inRegion ops rest::k)) cs') _)).setIfInBounds 0 _) rfl au rfl rfl (by simp) (gF _);have Y:=am.le U hK;refine h m₂ _ ρ' _ _ ag _ _ _ aa ai ⟨λr vs hr=>?_,λi J n hi=>?_,λr hr=>?_⟩ (.cons (o:=⟨fn,eM _ tm _,.inRegion ops rest::k⟩) ((ht.mono U).eM _ (.chan ad)) (an.mono U)) (by simp[ar]);exact Y.all r vs (by simpa using hr);obtain⟨r,vs,x,y⟩:=Y.only i J n hi;exact⟨r,vs,by simp[x],y⟩;simp only[cN,Prod.mk.injEq,and_true]at hr;rcases hr with rfl|hr
  exact⟨_,ad,.inr rfl⟩;obtain⟨c,x,y⟩:=Y.MH r hr;exact⟨c,x,.inl y⟩
structure Sends(E E₂:Env P)(f:b8)(caps:Array Value)(os os₂:List OF)(wl wl₂:World)(rc:Nat)(L:List Value):Prop where
 z:E₂.Z=E.Z
 t:E₂.T=E.T
 w:E₂.w0=E.w0
 fix:∀b,E₂.fC b->E.fC b
 flat:∀v∈L,∀(m:Ren)v',VR m v v'->v'=v
 go:∀m caps' w c,Rg E m->ep m caps caps'->WR m wl w->m.ch rc=some c->fX w c false->(∀b,E.fC b->w.heap[b]?=E.w0.heap[b]?)->∃(J:mJ)(mi:Ren)(S:LS)(k:Nat)(m₂:Ren),J.c=c/\J.L=L/\J.Ok P/\J.Ren mi/\lF P J.Stop S/\Holds S J.r []/\WR mi S.w w/\rb P J mi S k (kR P ⟨.fn (.func f) caps',#[]⟩)/\
  Rg E₂ m₂/\WR m₂ wl₂ w/\m₂.ch=m.ch/\(∀l,nR m E.T os l->nR m₂ E.T os₂ l)/\(∀r q,m₂.blk r=some q->∃r0,m.blk r0=some q/\(m.loose r0->m₂.loose r))/\
  (∀r q,mi.blk r=some q->(∃r0,m.blk r0=some q/\(m.loose r0->mi.loose r))\/(E.fC q/\(∀r0,m.blk r0≠some q)/\¬E₂.fC q))/\nS m₂ mi/\(∀r q,mi.blk r=some q->E₂.fC q->mi.loose r)/\(∀b,E.fC b->E₂.fC b\/∃r o,J.kQ r b o/\E.w0.heap[b]?=some o)
theorem C4(P:Program)(f:b8)(cx:Array Operand)(ρ:Operand->Value){o:Oper}(O:o.op=.makeFunc (.func f) #[] cx)(w:World):(bD ρ o).runT P w #[]=(.ok (.value (.func (.func f) #[] (cx.map ρ))) w,#[]):=by
 obtain⟨d,op,U,ps,W,g⟩:=o;subst O;have e:bD ρ ⟨d,.makeFunc (.func f) #[] cx,U,ps,W,g⟩=(Instr.makeFunc .. >>= λv=>pure _):=rfl;have Y:(#[]).map ρ=#[]:=by simp
 rw[e,Y];rfl
theorem Tj(P:Program)(f:b8)(q:Tmp)(cap:Array Value)(ρ:Operand->Value){o:Oper}(O:o.op=.go {callee:=.value (.tmp q),args:=#[],argTypes:=#[]})(U:ρ (.tmp q)=.func (.func f) #[] cap)(w:World):(bD ρ o).runT P w #[]=(.ok (.spawn ⟨.fn (.func f) cap,#[]⟩) w,#[]):=by
 obtain⟨d,op,W,ps,Y,g⟩:=o;subst O;have e2:(#[]).map ρ=#[]:=by simp
 have e:bD ρ ⟨d,.go {callee:=.value (.tmp q),args:=#[],argTypes:=#[]},W,ps,Y,g⟩=(Deferred.ofValue .. >>= λd=>pure _):=rfl;rw[e,e2,U];rfl
theorem dl.go{E₂:Env P}{i j:Nat}{rest:List Nat}{oi oj:Oper}{f:b8}{q:Tmp}{cx:Array Operand}{os₂:List OF}{wl₂:World}{rc:Nat}{L:List Value}{V₂:List (Nat×Option (List Value))}(hi:ops[i]?=some oi)(hj:ops[j]?=some oj)(gi:oi.guard=none)(gj:oj.guard=none)(aD:oi.op=.makeFunc (.func f) #[] cx)(aE:oi.dst=some q)(aF:oj.op=.go {callee:=.value (.tmp q),args:=#[],argTypes:=#[]})(aG:oj.dst=none)(aH:∀x∈cx.toList,dP E.fw E.gl x)(aI:q<tm.size)
  (hS:Sends E E₂ f (cx.map (iS tm)) (⟨fn,tm.setIfInBounds q (.tuple #[]),.inRegion ops rest::k⟩::os) os₂ wl wl₂ rc L) (an:∀q,E.fC q->¬E₂.fC q->∀m Pd ρ gs w t,Rg E m->Co P E.fC E.w0 Pd ρ m wl gs w t->RR m ρ Pd V->∀j m' r',(ρ j).mO=some m'->m'.blk r'≠some q)
  (hV:(rc,none)∈V) (aa:∀x∈V₂,x=(rc,some L)\/(x∈V/\x≠(rc,none))) (ao:(rc,some L)∈V₂) (ap:∀r vs,(r,some vs)∈V->(r,some vs)∈V₂)
  (h:dl E₂ os₂ wl₂ V₂):dl E (⟨fn,tm,.inRegion ops (i::j::rest)::k⟩::os) wl V:=by
 intro m Pd ρ gs w sl t fr' cs' ag aJ ab ac h0;refine turn (Z:=E.Z) (a:=G fr' cs') (K:=λj=>(ρ j).sum) (N:=gs.size) rfl ?_ ρ gs w sl t aJ (λ_=>rfl) h0 rfl;intro a3 aq w1 aW ak d1 t1 ad aK ar aX
 cases ac with
 |@cons _ _ O l ht aL=>
  have aM:∀ae:Array Value,fk oi (b7 ops ae)=true:=λ_=>by simp[fk,gi]
  have aN:∀ae:Array Value,fk oj (b7 ops ae)=true:=λ_=>by simp[fk,gj]
  have au:=lH (P:=P) (fn:=fn) (k:=k) (rest:=j::rest) (cs':=cs') (w:=w1.at d1) hi (aM O);have W:=iX fn O ops i (j::rest) k (.func (.func f) #[] (cx.map (iS O)));simp only[hi,cG,aE,eM]at W
  have av:ft P true (fN fn O (.inRegion ops (i::j::rest)::k)) cs' none (bD (iS O) oi) (w1.at d1)=.go (G (fN fn (O.setIfInBounds q (.func (.func f) #[] (cx.map (iS O)))) (.inRegion ops (j::rest)::k)) cs') (w1.at d1) #[]:=by
   unfold ft;simp only[if_true,C4 P f cx (iS O) aD,W];simp[ge,G,fN,bN]
  have ah:=bW (P:=P) (sl:=ak) (i:=0) ar (show b5 P (0==0) _ (w1.at d1)=_ from au.trans av);rw[ah];refine E.Z.next _ _ _ _ ?_;have a4:0<aq.size:=(bm.1 ar).1;refine turn (Z:=E.Z) (a:=G (fN fn (O.setIfInBounds q (.func (.func f) #[] (cx.map (iS O)))) (.inRegion ops (j::rest)::k)) cs') (K:=λj=>(a3 j).sum) (N:=aq.size) rfl ?_ a3 _ _ ak _ (ad.xb (gs':=(aq.map (woken P _ _ (w1.at d1))).setIfInBounds 0 (G (fN fn (O.setIfInBounds q (.func (.func f) #[] (cx.map (iS O)))) (.inRegion ops (j::rest)::k)) cs')) (.refl m) (.refl m _) (by simp) ad.main (by simp) (gF _)) (λ_=>rfl) (by simp[a4]) (by simp);clear ah ar ad;intro ρ' gs' w' aY a5 d0 t' U aO a6 hN;have hK:∀j,(ρ' j).sum=(ρ j).sum:=λj=>(aO j).trans (aK j);have au:=lH (P:=P) (fn:=fn) (k:=k) (rest:=rest) (cs':=cs') (w:=w'.at d0) hj (aN (O.setIfInBounds q (.func (.func f) #[] (cx.map (iS O)))));have aP:q<O.size:=by rw[<-ht.size];exact aI
  have aQ:iS (O.setIfInBounds q (.func (.func f) #[] (cx.map (iS O)))) (.tmp q)=.func (.func f) #[] (cx.map (iS O)):=by
   show(O.setIfInBounds q _).getD q hU=_;rw[bt,bs aP];rfl
  have a7:=Tj P f q (cx.map (iS O)) (iS (O.setIfInBounds q (.func (.func f) #[] (cx.map (iS O))))) aF aQ (w'.at d0);have aw:ep m (cx.map (iS tm)) (cx.map (iS O)):=kh (fw:=m.fw) (gl:=E.gl) (λx hx=>Km ht ag.pA.ou x hx) (λx hx=>by rw[ag.fw];exact aH x hx);have W:=iX fn (O.setIfInBounds q (.func (.func f) #[] (cx.map (iS O)))) ops j rest k hU;simp only[hj,cG,aG,eM]at W
  have av:ft P true (fN fn (O.setIfInBounds q (.func (.func f) #[] (cx.map (iS O)))) (.inRegion ops (j::rest)::k)) cs' none (bD (iS (O.setIfInBounds q (.func (.func f) #[] (cx.map (iS O))))) oj) (w'.at d0)=.spawn (G (fN fn (O.setIfInBounds q (.func (.func f) #[] (cx.map (iS O)))) (.inRegion ops rest::k)) cs') (kR P ⟨.fn (.func f) (cx.map (iS O)),#[]⟩) (w'.at d0) #[]:=by
   unfold ft;simp only[if_true,a7,W,Bool.and_false,Bool.false_and,en,if_false];simp[ge,G,fN,bN,kR]
  have ah:=runT_crowd_spawn (P:=P) (sl:=a5) (i:=0) a6 (show b5 P (0==0) _ (w'.at d0)=_ from au.trans av);have e0:∀f p,de 0 f p #[]=#[]:=λf p=>by rw[cd];simp
  rw[ah,e0];refine E.Z.next _ _ _ _ ?_;have a8:0<gs'.size:=(bm.1 a6).1;obtain⟨c,ai,a9⟩:=ab.MH rc hV;obtain⟨al,aZ,ba,bc⟩:=U.pd c a9;have ac:nR m E.T (⟨fn,tm.setIfInBounds q (.tuple #[]),.inRegion ops rest::k⟩::os) (fN fn (O.setIfInBounds q (.func (.func f) #[] (cx.map (iS O)))) (.inRegion ops rest::k)::cs'):=.cons (o:=⟨fn,tm.setIfInBounds q (.tuple #[]),.inRegion ops rest::k⟩) (ht.set q (.fK _ trivial)) aL;obtain⟨J,mi,S,ks,m₂,rfl,a',aR,aA,ax,ay,aS,af,aj,az,Y,a0,aB,aT,aU,aV,aC⟩:=hS.go m (cx.map (iS O)) (w'.at d0) c ag aw U.main ai al λb hb=>(U.fix b hb).2
  have am:=U.spawn (Fix₂:=E₂.fC) (Pd₂:=λc=>Pd c/\c≠J.c) (g':=G (fN fn (O.setIfInBounds q (.func (.func f) #[] (cx.map (iS O)))) (.inRegion ops rest::k)) cs') (child:=kR P ⟨.fn (.func f) (cx.map (iS O)),#[]⟩) (J:=J) (mi:=mi) (S:=S) (k:=ks)
   (a:={g:=0,fn:=(G (fN fn (O.setIfInBounds q (.func (.func f) #[] (cx.map (iS O)))) (.inRegion ops (j::rest)::k)) cs').frame.fn,pos:=(G (fN fn (O.setIfInBounds q (.func (.func f) #[] (cx.map (iS O)))) (.inRegion ops (j::rest)::k)) cs').frame.place,act:=.go gs'.size}) (b:={g:=gs'.size,fn:=(kR P ⟨.fn (.func f) (cx.map (iS O)),#[]⟩).frame.fn,pos:=(G (fN fn (O.setIfInBounds q (.func (.func f) #[] (cx.map (iS O)))) (.inRegion ops (j::rest)::k)) cs').frame.place,act:=.start}) a8 hS.fix (λc hc=>hc) a9 rfl rfl rfl rfl az aB (λr q hr=>?_) aU aV aC ⟨aR,al,aA,ax,ay,aS,af⟩
  rw[<-hS.z];rw[<-hS.w]at am;have hold:ρ' gs'.size=.quit 0:=U.out _ (.inr (cZ _))
  refine h m₂ _ _ _ _ a5 _ _ _ aj am ⟨λr vs hr=>?_,λj J' n hj=>?_,λr hr=>?_⟩ (by rw[hS.t];exact a0 _ ac) (by
   rw[bv,if_neg (by simp;omega)]
   simp[a8])
  rcases aa _ hr with x|⟨x,_⟩
  cases x;refine⟨gs'.size,J,0,by rw[cK];rfl,by rw[Y];exact ai,Nat.zero_le _,by rw[a'];rfl,by rw[a'];exact hS.flat⟩;obtain⟨j,J',n,x1,x2,x3⟩:=ab.all r vs x
  have hj:j≠gs'.size:=by
   rintro rfl;rw[<-hK,hold]at x1;cases x1
  exact⟨j,J',n,by rw[cL _ _ hj,hK];exact x1,by rw[Y];exact x2,x3⟩;by_cases e:j=gs'.size;subst e;rw[cK]at hj;cases hj;exact⟨rc,L,ao,by rw[Y];exact ai⟩;rw[cL _ _ e,hK]at hj;obtain⟨r,vs,x,y⟩:=ab.only j J' n hj;exact⟨r,vs,ap r vs x,by rw[Y];exact y⟩;rcases aa _ hr with x|⟨x,y⟩
  cases x;obtain⟨c,x1,x2⟩:=ab.MH r x;refine⟨c,by rw[Y];exact x1,x2,?_⟩;rintro rfl;have:=m.vm _ _ _ x1 ai;subst this;exact y rfl;rcases aT r q hr with x|⟨x1,x2,x3⟩
  exact .inl x;exact .inr ⟨x1,x2,an q x1 x3 m Pd ρ' gs' _ t' ag U (ab.le (.refl m) hK)⟩
end
end
section
open Go.Conc
open Go.ConcN (upd upd_same upd_ne)
variable {v z:Value}
inductive Flat:Value->Prop
 |bool (b):Flat (.bool b)
 |int (k n):Flat (.int k n)
 |string (s):Flat (.string s)
 |agg {c:Array Value}:(∀i(h:i<c.size),Flat c[i])->Flat (.agg c)
theorem Flat.refl(h:Flat v)(m:Ren):VR m v v:=by
 induction h with
 |bool b=>exact .bool b|int k n=>exact .int k n|string s=>exact .string s|agg _ O=>exact .agg rfl λi h _=>O i h
theorem Flat.eq(h:Flat v):∀(m:Ren)U,VR m v U->U=v:=by
 induction h with
 |bool b=>intro m U O;cases O;rfl
 |int k n=>intro m U O;cases O;rfl
 |string s=>intro m U O;cases O;rfl
 |@agg c _ Y=>
  intro m U O
  cases O with
  |@agg _ c' hs hi=>
   congr 1;refine b4 hs.symm λi h1 W=>?_;exact Y i W m _ (hi i W h1)
def xf(z:Value)(k:Nat)(v:Value)(ok:Bool):Value:=
 .tuple #[goInt k,.bool ok,if k=0 then v else z,if k=1 then v else z,if k=2 then v else z,if k=3 then v else z,if k=4 then v else z,if k=5 then v else z,if k=6 then v else z]
theorem QA(z:Value)(c0 c1 c2 c3 c4 c5 O:Value)(k:Nat)(v:Value)(ok:Bool):bL #[⟨c0,none,z⟩,⟨c1,none,z⟩,⟨c2,none,z⟩,⟨c3,none,z⟩,⟨c4,none,z⟩,⟨c5,none,z⟩,⟨O,none,z⟩] .select (k:Int) v ok=xf z k v ok:=by
 have U:((0:Int)=k)=(k=0):=by rw[eq_iff_iff];omega
 have W:((1:Int)=k)=(k=1):=by rw[eq_iff_iff];omega
 have Y:((2:Int)=k)=(k=2):=by rw[eq_iff_iff];omega
 have e3:((3:Int)=k)=(k=3):=by rw[eq_iff_iff];omega
 have e4:((4:Int)=k)=(k=4):=by rw[eq_iff_iff];omega
 have e5:((5:Int)=k)=(k=5):=by rw[eq_iff_iff];omega
 have e6:((6:Int)=k)=(k=6):=by rw[eq_iff_iff];omega
 simp[bL,xf,List.zipIdx,U,W,Y,e3,e4,e5,e6]
theorem NU(O:Flat z)(U:Flat v)(k:Nat)(ok:Bool)(m:Ren):VR m (xf z k v ok) (xf z k v ok):=by
 have one:∀n,VR m (if k=n then v else z) (if k=n then v else z):=λn=>by
  split;exact U.refl m;exact O.refl m
 refine VR.kS (dQ.cons (.int ..) (.cons (.bool ok) (.cons (one 0) (.cons (one 1) (.cons (one 2) (.cons (one 3) (.cons (one 4) (.cons (one 5) (.cons (one 6) .nil)))))))))
def rV(V:List (Nat×Option (List Value)))(r:Nat)(vs:List Value):List (Nat×Option (List Value)):=V.map λx=>if x.1=r then(r,some vs)else x
def uu(V:List (Nat×Option (List Value)))(r:Nat):List (Nat×Option (List Value)):=V.filter λx=>x.1≠r
section
variable {P:Program} {E:Env P} {fn:b8} {tm:Array Value} {os:List OF} {wl:World} {V:List (Nat×Option (List Value))} {k:List Item}
theorem dl.select{ops:Array Oper}{i:Nat}{rest:List Nat}{o:Oper}{x0 x1 x2 x3 x4 x5 x6:Tmp}{cl:Nat->Option Nat}(hi:ops[i]?=some o)(a5:fk o (b7 ops tm)=true)
  (av:∀(Y:Array Value)(w:World),(bD (iS Y) o).runT P w #[]=(.ok (.comm #[⟨Y.getD x0 hU,none,z⟩,⟨Y.getD x1 hU,none,z⟩,⟨Y.getD x2 hU,none,z⟩,⟨Y.getD x3 hU,none,z⟩,⟨Y.getD x4 hU,none,z⟩,⟨Y.getD x5 hU,none,z⟩,⟨Y.getD x6 hU,none,z⟩] true .select) w,#[]))
  (hz:Flat z) (c0:tm.getD x0 hU=.chan (cl 0)) (c1:tm.getD x1 hU=.chan (cl 1)) (c2:tm.getD x2 hU=.chan (cl 2)) (c3:tm.getD x3 hU=.chan (cl 3)) (c4:tm.getD x4 hU=.chan (cl 4)) (c5:tm.getD x5 hU=.chan (cl 5)) (c6:tm.getD x6 hU=.chan (cl 6))
  (jP:∀k r,k<7->cl k=some r->∃vs,(r,some vs)∈V) (rX:∀k k' r,k<7->k'<7->cl k=some r->cl k'=some r->k=k') (an:∃k r,k<7/\cl k=some r) (fG:(V.map Prod.fst).Nodup) (ag:∀r vs,(r,some vs)∈V->∀v∈vs,Flat v)
  (hv:∀k' r v vs,k'<7->cl k'=some r->(r,some (v::vs))∈V->dl E (⟨fn,eM o.dst tm (xf z k' v true),.inRegion ops rest::k⟩::os) wl (rV V r vs))
  (he:∀k' r,k'<7->cl k'=some r->(r,some [])∈V->dl E (⟨fn,eM o.dst tm (xf z k' z false),.inRegion ops rest::k⟩::os) wl (uu V r)) :
  dl E (⟨fn,tm,.inRegion ops (i::rest)::k⟩::os) wl V:=by
 intro m Pd ρ gs w sl t fr' cs' aw ax aa ay h0
 have a6:∀r a b,(r,a)∈V->(r,b)∈V->a=b:=by
  intro r a b ha hb;clear aa hv he jP ag;induction V with
  |nil=>cases ha
  |cons y V ih=>
   simp only[List.map_cons,List.nodup_cons]at fG;have ah:∀q,(r,q)∈V->y.1≠r:=λq hq e=>fG.1 (e▸cP.2 ⟨(r,q),hq,rfl⟩);rcases cN.1 ha with ea|ha
   rcases cN.1 hb with eb|hb
   rw[<-ea]at eb;cases eb;rfl;exact absurd (by rw[<-ea]) (ah b hb);rcases cN.1 hb with eb|hb
   exact absurd (by rw[<-eb]) (ah a ha);exact ih fG.2 ha hb
 cases ay with
 |@cons _ _ Y l ht az=>
  have hy:fk o (b7 ops Y)=true:=by rw[show b7 ops Y=b7 ops tm from funext (lK ops ht)];exact a5
  have kI:∀x c,tm.getD x hU=.chan c->Y.getD x hU=.chan (c.bind m.ch):=by
   intro x c hc;have hx:=ht.getD x;simp only at hx;rw[hc]at hx;generalize hq:Y.getD x hU=q at hx
   cases hx with
   |iW=>rfl|chan hb=>simp[hb]
  have d0:=kI x0 _ c0;have d1:=kI x1 _ c1;have d2:=kI x2 _ c2;have d3:=kI x3 _ c3;have d4:=kI x4 _ c4;have d5:=kI x5 _ c5;have d6:=kI x6 _ c6;let chans:Nat->Option Nat:=λk=>(cl k).bind m.ch;let O:Array CommCase:=#[⟨.chan (chans 0),none,z⟩,⟨.chan (chans 1),none,z⟩,⟨.chan (chans 2),none,z⟩,⟨.chan (chans 3),none,z⟩,⟨.chan (chans 4),none,z⟩,⟨.chan (chans 5),none,z⟩,⟨.chan (chans 6),none,z⟩];have aA:O.size=7:=rfl
  have a0:∀w,(bD (iS Y) o).runT P w #[]=(.ok (.comm O true .select) w,#[]):=by
   intro w;rw[av,d0,d1,d2,d3,d4,d5,d6]
  have ai:∀w,b5 P true (G (fN fn Y (.inRegion ops (i::rest)::k)) cs') w=.comm (G (fN fn Y (.inRegion ops (i::rest)::k)) cs') O true .select w #[]:=by
   intro w;rw[lH (P:=P) (fn:=fn) (k:=k) (rest:=rest) (cs':=cs') (w:=w) hi hy];unfold ft;simp only[if_true,a0];simp[ge,G,fN,bN]
  have U:∀k c,k<7->chans k=some c->∃r vs j J n,cl k=some r/\(r,some vs)∈V/\(ρ j).sum=some (J,n)/\m.ch r=some J.c/\J.c=c/\n<=J.L.length/\J.L.drop n=vs/\∀v∈J.L,∀(m:Ren)v',VR m v v'->v'=v:=by
   intro k c hk hc;simp only[chans]at hc
   cases e:cl k with
   |none=>rw[e]at hc;cases hc
   |some r=>
    rw[e]at hc;simp only[cG]at hc;obtain⟨vs,ab⟩:=jP k r hk e;obtain⟨j,J,n,g1,g2,g3,g4,g5⟩:=aa.all r vs ab;refine⟨r,vs,j,J,n,rfl,ab,g1,g2,?_,g3,g4,g5⟩;rw[g2]at hc;exact dk hc
  have aj:∀(j j':Nat)J n J' n',(ρ j).sum=some (J,n)->(ρ j').sum=some (J',n')->J.c=J'.c->j=j':=by
   intro j j' J n J' n' h1 h2 hc;apply dt;intro ad;exact ax.cc j j' J J' ad (eA.xo h1) (eA.xo h2) hc
  have hS:vO P (G (fN fn Y (.inRegion ops (i::rest)::k)) cs') O chans (λj=>(ρ j).sum):=by
   refine⟨rfl,ai,ai,λk cc ac=>?_,λk k' c hk a3 h1 h2=>?_,λk c hk hc=>?_,?_,λj J n hj v hv=>?_⟩;have hk:k<7:=(bm.1 ac).1;refine⟨z,?_⟩;match k,hk with
   |0,_=>simpa[O]using ac.symm|1,_=>simpa[O]using ac.symm|2,_=>simpa[O]using ac.symm|3,_=>simpa[O]using ac.symm|4,_=>simpa[O]using ac.symm|5,_=>simpa[O]using ac.symm|6,_=>simpa[O]using ac.symm
   obtain⟨r,vs,j,J,n,e1,_,_,e2,e3,_⟩:=U k c hk h1;obtain⟨r',vs',j',J',n',a7,_,_,a8,a9,_⟩:=U k' c a3 h2;have:r=r':=m.vm _ _ _ e2 (by rw[a8,a9,e3]);subst this;exact rX k k' r hk a3 e1 a7;obtain⟨r,vs,j,J,n,_,_,e,_,e3,_⟩:=U k c hk hc;exact⟨j,J,n,e,e3⟩;obtain⟨k,r,hk,hr⟩:=an;obtain⟨vs,ab⟩:=jP k r hk hr;obtain⟨j,J,n,g1,g2,_⟩:=aa.all r vs ab;exact⟨k,J.c,hk,by simp[chans,hr,g2]⟩;obtain⟨r,vs,ab,g2⟩:=aa.only j J n hj;obtain⟨j',J',n',ao,a4,_,_,g5⟩:=aa.all r vs ab;rw[g2]at a4;have:=aj j j' J n J' n' hj ao (dk a4);subst this;rw[hj]at ao;cases ao;exact g5 v hv
  have am:∀(k':Nat)v ok,(G (fN fn Y (.inRegion ops (i::rest)::k)) cs').finishComm P O .select (k':Int) v ok=G (fN fn (eM o.dst Y (xf z k' v ok)) (.inRegion ops rest::k)) cs':=by
   intro k' v ok;have e:=iX fn Y ops i rest k (xf z k' v ok);simp only[hi,cG]at e;show({(G (fN fn Y (.inRegion ops (i::rest)::k)) cs')with frame:=(fN fn Y (.inRegion ops (i::rest)::k)).finish (bL O .select (k':Int) v ok),status:=.running,offers:=none}:Goroutine)=_;rw[QA,e];rfl
  refine Go.Proofs.YtocbogeoffeolaaGreatDoor.select (Z:=E.Z) (N:=gs.size) hS ?_ ?_ ρ gs w sl t ax (λ_=>rfl) h0 rfl;intro k' j J n v hk hc hj hn ρ' gs' w' ap t' ak hK al hN;obtain⟨r,vs,j',J',n',e1,e2,e3,e4,e5,e6,e7,e8⟩:=U k' J.c hk hc;have:=aj j j' J n J' n' hj e3 e5.symm;subst this;rw[hj]at e3;cases e3
  have ab:vs=v::J.L.drop (n+1):=by
   rw[<-e7];obtain⟨aq,rfl⟩:=cV.1 hn;exact List.drop_eq_getElem_cons aq
  subst ab;rw[am]at al;have a':=ag r _ e2;refine hv k' r v (J.L.drop (n+1)) hk e1 e2 m Pd ρ' gs' w' ap t' _ _ aw ak ⟨λr2 ae h2=>?_,λj2 J2 n2 h2=>?_,λr2 h2=>?_⟩ (.cons (o:=⟨fn,eM o.dst tm (xf z k' v true),.inRegion ops rest::k⟩) (ht.eM o.dst (NU hz (a' v (by simp)) k' true m)) az) al;simp only[rV,cP]at h2;obtain⟨y,ar,af⟩:=h2;split at af
  cases af
  have aq:n<J.L.length:=by
   have:=(cV.1 hn).1;exact this
  exact⟨j,J,n+1,by rw[hK,cK],e4,aq,rfl,e8⟩;rename_i ad;subst af;obtain⟨j2,J2,n2,g1,g2,g3⟩:=aa.all r2 ae ar
  have au:j2≠j:=by
   rintro rfl;rw[hj]at g1;cases g1;exact ad (m.vm _ _ _ g2 e4)
  exact⟨j2,J2,n2,by rw[hK,cL _ _ au];exact g1,g2,g3⟩;rw[hK]at h2;by_cases e:j2=j;subst e;rw[cK]at h2;cases h2;refine⟨r,J.L.drop (n+1),?_,e4⟩;simp only[rV,cP];exact⟨_,e2,by simp⟩;rw[cL _ _ e]at h2;obtain⟨r2,ae,g1,g2⟩:=aa.only j2 J2 n2 h2
  have ad:r2≠r:=by
   rintro rfl;rw[e4]at g2;exact e (aj j2 j J2 n2 J n h2 hj (dk g2).symm)
  refine⟨r2,ae,?_,g2⟩;simp only[rV,cP];exact⟨_,g1,by simp[ad]⟩;simp only[rV,cP]at h2;obtain⟨y,ar,af⟩:=h2;split at af
  cases af;subst af;exact aa.MH r2 ar;intro k' j J z' W hc hj ρ' gs' w' ap t' ak hK al hN;have hk:k'<7:=(bm.1 W).1;obtain⟨r,vs,j',J',n',e1,e2,e3,e4,e5,e6,e7,e8⟩:=U k' J.c hk hc;have:=aj j j' J _ J' n' hj e3 e5.symm;subst this;rw[hj]at e3;cases e3;have ab:vs=[]:=by rw[<-e7];simp
  subst ab
  have ez:z'=z:=by
   obtain⟨z2,aB⟩:=hS.cs k' _ W;have aC:(bY J.c z').zero=z':=rfl;match k',hk,W with
   |0,_,W=>simp[O,bY]at W;exact W.2.symm|1,_,W=>simp[O,bY]at W;exact W.2.symm|2,_,W=>simp[O,bY]at W;exact W.2.symm|3,_,W=>simp[O,bY]at W;exact W.2.symm|4,_,W=>simp[O,bY]at W;exact W.2.symm|5,_,W=>simp[O,bY]at W;exact W.2.symm|6,_,W=>simp[O,bY]at W;exact W.2.symm
  subst ez;rw[am]at al;refine he k' r hk e1 e2 m Pd ρ' gs' w' ap t' _ _ aw ak ⟨λr2 ae h2=>?_,λj2 J2 n2 h2=>?_,λr2 h2=>?_⟩ (.cons (o:=⟨fn,eM o.dst tm (xf z' k' z' false),.inRegion ops rest::k⟩) (ht.eM o.dst (NU hz hz k' false m)) az) al;simp only[uu,cS,decide_eq_true_eq]at h2;obtain⟨j2,J2,n2,g1,g2,g3⟩:=aa.all r2 ae h2.1
  have au:j2≠j:=by
   rintro rfl;rw[hj]at g1;cases g1;exact h2.2 (m.vm _ _ _ g2 e4)
  exact⟨j2,J2,n2,by rw[hK,cL _ _ au];exact g1,g2,g3⟩;rw[hK]at h2
  have e:j2≠j:=by
   rintro rfl;rw[cK]at h2;cases h2
  rw[cL _ _ e]at h2;obtain⟨r2,ae,g1,g2⟩:=aa.only j2 J2 n2 h2
  have ad:r2≠r:=by
   rintro rfl;rw[e4]at g2;exact e (aj j2 j J2 n2 J _ h2 hj (dk g2).symm)
  refine⟨r2,ae,?_,g2⟩;simp only[uu,cS,decide_eq_true_eq];exact⟨g1,ad⟩;simp only[uu,cS,decide_eq_true_eq]at h2;exact aa.MH r2 h2.1
end
end
section
open Go.Conc
open Go.ConcN (upd upd_same upd_ne)
def G4:eA->eA
 |.ended _ _ _ _ q=>.quit q|r=>r
section
variable {P:Program} {fC Fix':Nat->Prop} {w0 w0':World} {Pd:Nat->Prop} {ρ:Nat->eA} {m m':Ren} {wl wl':World} {gs:Array Goroutine} {w:World} {t:b9}
theorem uC{i:Nat}(O:(ρ i).sum=none):∃q,G4 (ρ i)=.quit q:=by
 cases e:ρ i with
 |quit q=>exact⟨q,rfl⟩|ended U J m S q=>exact⟨q,rfl⟩|act=>rw[e]at O;cases O
 |jk=>rw[e]at O;cases O
 |start=>rw[e]at O;cases O
theorem Co.PX(h:Co P fC w0 Pd ρ m wl gs w t)(hn:∀i,(ρ i).sum=none)(hw:WR m' wl' w)(aa:∀b,Fix' b->b<w.heap.size/\w.heap[b]?=w0'.heap[b]?)(hf:∀r b,m'.blk r=some b->Fix' b->m'.loose r)(ac:w0'.heap.size<=w.heap.size)(ad:w.os=w0'.os/\w.output=w0'.output)(ab:∀b,b<w0'.heap.size->Fix' b\/w0'.heap[b]?=some oJ) :
  Co P Fix' w0' (λ_=>False) (λi=>G4 (ρ i)) m' wl' gs w t:=by
 have hq:=λi=>uC (hn i)
 have no:∀{α:Type}(f:eA->Option α),(∀q,f _=none)->∀i x,f (G4 _)=some x->False:=λf hf i x hx=>by
  obtain⟨q,e⟩:=hq i;rw[e,hf]at hx;cases hx
 refine⟨hw,λi g hi hg=>?_,λi hi=>?_,λi Y O=>(no _ (λ_=>rfl) i Y O).elim,λi j Y m2 _ O _=>(no _ (λ_=>rfl) i Y O).elim,λi j J1 J2 _ O _=>(no _ (λ_=>rfl) i J1 O).elim,h.calm hn m',λi Y O=>(no _ (λ_=>rfl) i Y O).elim,λi J O=>(no _ (λ_=>rfl) i J O).elim,h.low,h.hears,h.kw.mono λi hi=>absurd (hn i) hi,h.clean,aa,hf,λi Y O=>(no _ (λ_=>rfl) i Y O).elim,λi J O=>(no _ (λ_=>rfl) i J O).elim,ac,ad,λp a b ha hb _=>.inl (h.calm hn {m' with blk:=λr=>if r=b then some b else none,ou:=?_,inj:=?_,loose:=λ_=>False} p a b b ha hb (by simp) nofun),nofun,λb hb=>(ab b hb).imp id .inr⟩;have U:=h.at_ i g hi hg;have W:=hn i
 cases e:ρ i with
 |quit q=>rw[e]at U;exact U|ended hd J m S q=>rw[e]at U;exact U.1|act=>rw[e]at W;cases W
 |jk=>rw[e]at W;cases W
 |start=>rw[e]at W;cases W
 rw[h.out i hi];rfl;intro r r' hr;split at hr
 cases hr;rename_i e;rw[e]
 cases hr;intro r s q hr W;split at hr;split at W;rename_i e1 e2;rw[e1,e2]
 cases W
 cases hr
theorem Co.old(h:Co P fC w0 Pd ρ m wl gs w t)(hn:∀i,(ρ i).sum=none)(Y:∀b,w0.heap[b]?=some oJ->fC b):∀b,b<w0.heap.size->w.heap[b]?=w0.heap[b]?:=by
 intro b hb;rcases h.len b hb with x|⟨i,J,r,o,x1,x2,x3⟩|z
 .exact(h.fix b x).2
 rotate_left;exact(h.fix b (Y b z)).2;obtain⟨g,hi,hg,U⟩:=h.get (i:=i) λe=>by rw[e]at x1;cases x1
 have O:=hn i
 cases e:ρ i with
 |quit q=>rw[e]at x1;cases x1
 |act=>rw[e]at O;cases O
 |jk=>rw[e]at O;cases O
 |start=>rw[e]at O;cases O
 |ended hd J' mi S q=>
  rw[e]at x1 U;cases x1;obtain⟨_,W,⟨aa,ab⟩,ac,_⟩:=U;obtain⟨h1,h2⟩:=ab.back S aa r b o x2;obtain⟨o1,o2,g1,g2,g3⟩:=ac.obj r b (W.kQ r b o x2);rw[h1]at g1;cases g1;rw[h2 mi o2 g3]at g2;rw[g2,x3]
theorem Co.fresh(h:Co P fC w0 Pd ρ m wl gs w t)(U:∀b,w0.heap[b]?=some oJ->fC b){r b:Nat}(W:m.blk r=some b)(Y:¬m.loose r):w0.heap.size<=b:=by
 apply dt;intro hb;rcases h.len b (by omega)with x|⟨i,J,r',o,x1,x2,x3⟩|z
 .exact Y (h.f0 r b W x)
 rotate_left;exact Y (h.f0 r b W (U b z));obtain⟨g,hi,hg,aa⟩:=h.get (i:=i) λe=>by rw[e]at x1;cases x1
 obtain⟨m1,O⟩:∃m1,(ρ i).mO=some m1:=by
  cases e:ρ i with
  |quit q=>rw[e]at x1;cases x1
  |act J m S n=>exact⟨m,rfl⟩|jk J m S n v=>exact⟨m,rfl⟩|start J m S k=>exact⟨m,rfl⟩|ended hd J m S q=>exact⟨m,rfl⟩
 exact Y (h.d0 i m1 O r r' b W ((aa.U9 O x1).kQ r' b o x2)).1
theorem WR.P'(h:WR m wl w){b:Nat}{c:Array Value}{e:bH}{f:Nat×Nat}(hb:∀s,m.blk s≠some b)(hG:wl.heap.size<m.G↔b<m.G)(ho:w.heap[b]?=some (.cells c e f))(hc:∀v∈c.toList,Flat v) :
  WR (m.ext wl.heap.size b h.gM hb hG) {wl with heap:=wl.heap.push (.cells c e f)} w:=by
 have aa:=Ren.uO h.gM hb hG;have ac:OR (m.ext _ b h.gM hb hG) _ _:=.cells e f f (ep.refl λv hv=>(hc v hv).refl _)
 have key:∀r r',(m.ext _ b h.gM hb hG).blk r=some r'->(r=wl.heap.size/\r'=b)\/(r≠wl.heap.size/\m.blk r=some r'):=by
  intro r r' O;by_cases e:r=wl.heap.size;subst e;simp[Ren.ext]at O;exact .inl ⟨rfl,O.symm⟩;simp[Ren.ext,e]at O;exact .inr ⟨e,O⟩
 have lo:∀r,(m.ext _ b h.gM hb hG).loose r->r≠wl.heap.size/\m.loose r:=by
  intro r O;by_cases e:r=wl.heap.size;subst e;simp[Ren.ext]at O;simp[Ren.ext,e]at O;exact⟨e,O⟩
 have pu:∀r,r<wl.heap.size->(wl.heap.push (.cells c e f))[r]?=wl.heap[r]?:=λr O=>eL O;refine⟨λr r' O=>?_,λr r' c1 Y f1 c2 e2 f2 O h1 h2 hn=>?_,λr r' c1 Y f1 c2 e2 f2 O h1 h2 hl=>?_,λr r' O=>?_,?_,h.JQ,h.os,λr o O=>?_,λr r' O hl=>?_,λr O=>?_,λr i v hv=>?_⟩;rcases key r r' O with⟨rfl,rfl⟩|⟨_,O⟩
 exact⟨_,_,by simp,ho,ac⟩;obtain⟨o,o',g1,g2,g3⟩:=h.obj r r' O;exact⟨o,o',iL g1,g2,g3.mono aa⟩;rcases key r r' O with⟨rfl,rfl⟩|⟨U,O⟩
 rw[ho]at h2;cases h2;simp at h1;exact h1.2.2;have W:=(h.lt O).1;refine h.fz r r' c1 Y f1 c2 e2 f2 O (by rw[<-pu r W];exact h1) h2 λx=>hn ?_;simp[Ren.ext,U,x];rcases key r r' O with⟨rfl,rfl⟩|⟨U,O⟩
 exact absurd rfl (lo _ hl).1;have W:=(h.lt O).1;exact h.all r r' c1 Y f1 c2 e2 f2 O (by rw[<-pu r W];exact h1) h2 (lo _ hl).2;have:=h.Nc r r' O;exact⟨by simp;omega,this.2⟩;have:=h.Na;show m.G<=(wl.heap.push _).size;simp;omega;obtain⟨g1,g2⟩:=h.kI r o O;exact⟨iL g1,g2⟩;rcases key r r' O with⟨rfl,rfl⟩|⟨U,O⟩
 exact absurd rfl (lo _ hl).1;obtain⟨c1,Y,f1,g⟩:=h.lk r r' O (lo _ hl).2;exact⟨c1,Y,f1,iL g⟩;obtain⟨g1,c1,Y,f1,g⟩:=h.dead r O;have W:=jE g;refine⟨?_,c1,Y,f1,iL g⟩;have U:r≠wl.heap.size:=by omega
 simp[Ren.ext,U,g1];obtain⟨r',ab,hp⟩:=h.rY r i v hv;exact⟨r',aa.blk _ _ ab,λc e f c' e' f' x g1=>hp c e f c' e' f' x (by rw[<-pu r (h.lt ab).1];exact g1)⟩
end
end
section
open Go.Conc
open Go.ConcN (upd upd_same upd_ne)
variable {ops:Array Oper} {f:b8} {R0:Nat->Nat->Prop} {R1:Nat->Option Nat->Nat->Nat->Array Value->bH->Nat×Nat->Prop} {m:Ren}
section
variable {P:Program} {E:Env P} {fn:b8} {tm:Array Value} {os:List OF} {wl:World} {k:List Item}
theorem Rg.P'(h:Rg E m){r b:Nat}(U:m.blk r=none)(W:∀s,m.blk s≠some b)(Y:r<m.G↔b<m.G):Rg E (m.ext r b U W Y):=by
 have O:=Ren.uO U W Y;exact⟨h.pA.mono O,h.il,λs s' hs=>h.mz s s' hs,O.fw.trans h.fw,O.ok.trans h.Si,E.le m _ O h.x⟩
theorem Hx{c O:Array Value}(h:ep m c O)(U:∀v∈c.toList,Flat v):O=c:=by
 refine b4 h.size.symm λi W Y=>?_;have:=h.idx i Y W;exact(U _ (by simp)).eq m _ this
structure Bj(P:Program)(E₂:Env P)(gO:Func)(tm1:Array Value)(wl2:World)(R0:Nat->Nat->Prop)(R1:Nat->Option Nat->Nat->Nat->Array Value->bH->Nat×Nat->Prop):Prop where
 wT:∃v1,(∀τ,(bM gO tm1).run P (tp wl2 τ)=.ok v1 (tp wl2 τ))/\((∃l cp,v1=.slice none l cp/\R0 l cp)\/∃b1 off spot l cp cs e f,v1=.slice (some ⟨b1,off,spot⟩) l cp/\wl2.heap[b1]?=some (.cells cs e f)/\(∀v∈cs.toList,Flat v)/\(∀m,Rg E₂ m->¬m.loose b1)/\R1 off spot l cp cs e f)
 UY:∀b,E₂.w0.heap[b]?=some oJ->E₂.fC b
theorem KO{E₂:Env P}{gO:Func}{i:Nat}{rest:List Nat}{o:Oper}{m0:Ren}{O:Array Value}{l':List Frame}{tm1:Array Value}{td1:List Item}{aa:World}
  (ap:∀b,b<E.w0.heap.size->E.fC b\/E.w0.heap[b]?=some oJ) (Y:∀b,E.fC b->b<E₂.w0.heap.size/\E₂.w0.heap[b]?=E.w0.heap[b]?) (ay:∀r b,m0.blk r=some b->E.fC b->m0.loose r) (az:E.w0.heap.size<=E₂.w0.heap.size) (aj:E₂.w0.os=E.w0.os/\E₂.w0.output=E.w0.output) (hZ:E₂.Z=E.Z) (hT:E₂.T=fN fn O (.inRegion ops (i::rest)::k)::l') (ak:Rg E m0) (af:WR m0 wl E₂.w0) (ht:ep m0 tm O) (a0:nR m0 E.T os l') (hf:P.funcs[f]?=some gO) (hi:ops[i]?=some o) (aF:td1=[]\/∃k1,td1=.code .ret::k1) (hR:Bj P E₂ gO tm1 aa R0 R1)
  (aG:∀l cp,R0 l cp->dl E (⟨fn,eM o.dst tm (.slice none l cp),.inRegion ops rest::k⟩::os) wl [])
  (aH:∀off spot l cp cs e f,R1 off spot l cp cs e f->(∀v∈cs.toList,Flat v)->dl E (⟨fn,eM o.dst tm (.slice (some ⟨wl.heap.size,off,spot⟩) l cp),.inRegion ops rest::k⟩::os) {wl with heap:=wl.heap.push (.cells cs e f)} []) :
  dl E₂ [⟨f,tm1,td1⟩] aa []:=by
 intro m Pd ρ gs w sl t fr' cs' aI aJ aK ag h0
 have hn:∀i,(ρ i).sum=none:=by
  intro i
  cases e:(ρ i).sum with
  |none=>rfl|some x=>
   obtain⟨r,vs,hx,_⟩:=aK.only i x.1 x.2 e;cases hx
 refine turn (Z:=E₂.Z) (a:=G fr' cs') (K:=λj=>(ρ j).sum) (N:=gs.size) rfl ?_ ρ gs w sl t aJ (λ_=>rfl) h0 rfl;intro ρ' gs' w' aY a3 d t' ah hK ai hN
 cases ag with
 |@cons _ _ W l aL ag=>
  cases ag;rw[hT]at ai
  have aM:b5 P true (G (fN f W td1) (fN fn O (.inRegion ops (i::rest)::k)::l')) (w'.at d)=.go (G ⟨f,W,td1,[],.returning,.normal,none⟩ (fN fn O (.inRegion ops (i::rest)::k)::l')) (w'.at d) #[]:=by
   rcases aF with rfl|⟨k1,rfl⟩<;>rfl
  have a4:=bW (P:=P) (sl:=a3) (i:=0) ai (show b5 P (0==0) _ (w'.at d)=_ from aM);rw[a4];refine E₂.Z.next _ _ _ _ ?_;have aN:0<gs'.size:=(bm.1 ai).1;refine turn (Z:=E₂.Z) (a:=G ⟨f,W,td1,[],.returning,.normal,none⟩ (fN fn O (.inRegion ops (i::rest)::k)::l')) (K:=λj=>(ρ' j).sum) (N:=gs'.size) rfl ?_ ρ' _ _ a3 _ (ah.xb (gs':=(gs'.map (woken P _ _ (w'.at d))).setIfInBounds 0 (G ⟨f,W,td1,[],.returning,.normal,none⟩ (fN fn O (.inRegion ops (i::rest)::k)::l'))) (.refl m) (.refl m _) (by simp) ah.main (by simp) (gF _)) (λ_=>rfl) (by simp[aN]) (by simp);clear ah a4 ai;intro aq a5 w2 aZ ar d2 t2 al aO a6 ba;obtain⟨v1,a7,au⟩:=hR.wT;have a8:=(lJ (P:=P) (fn:=gO) aL).run (tp aa (along aa (w2.at d2))) (w2.at d2) #[] (al.main.tp _) (.inl (oI aa (w2.at d2)));rw[a7]at a8;obtain⟨dx,v',w₁,es₁,e1,e2,e3,e4,_,e6,e7⟩:=a8;rw[bu]at e1;have am:=iX fn O ops i rest k v';simp only[hi,cG]at am
  have a9:b5 P true (G ⟨f,W,td1,[],.returning,.normal,none⟩ (fN fn O (.inRegion ops (i::rest)::k)::l')) (w2.at d2)=.go (G (fN fn (eM o.dst O v') (.inRegion ops rest::k)) l') w₁ (bN P f es₁):=by
   have:b5 P true (G ⟨f,W,td1,[],.returning,.normal,none⟩ (fN fn O (.inRegion ops (i::rest)::k)::l')) (w2.at d2)=bA P true ⟨f,W,td1,[],.returning,.normal,none⟩ (fN fn O (.inRegion ops (i::rest)::k)::l') none (w2.at d2):=rfl;rw[this];unfold bA;simp only[hf,e1];unfold bJ;simp only[am];simp[ge,G]
  have aA:=bW (P:=P) (sl:=ar) (i:=0) a6 (show b5 P (0==0) _ (w2.at d2)=_ from a9);rw[aA];refine E₂.Z.next _ _ _ _ ?_;rw[hZ];have an:0<a5.size:=(bm.1 a6).1;have U:=al.xb (gs':=(a5.map (woken P (G ⟨f,W,td1,[],.returning,.normal,none⟩ (fN fn O (.inRegion ops (i::rest)::k)::l')) (G (fN fn (eM o.dst O v') (.inRegion ops rest::k)) l') w₁)).setIfInBounds 0 (G (fN fn (eM o.dst O v') (.inRegion ops rest::k)) l')) (fn:=(G (⟨f,W,td1,[],.returning,.normal,none⟩:Frame) (fN fn O (.inRegion ops (i::rest)::k)::l')).frame.fn) (pos:=(G (⟨f,W,td1,[],.returning,.normal,none⟩:Frame) (fN fn O (.inRegion ops (i::rest)::k)::l')).frame.place) (es:=bN P f es₁) e2 e6 (λe he=>e7 e (cn he)) e4 (by simp) (gF _);have av:∀i,(aq i).sum=none:=λi=>(aO i).trans ((hK i).trans (hn i));have hold:=U.old av hR.UY;have ad:WR m0 wl w₁:=af.rely (λr b hb=>hold b (af.lt hb).2) U.sz U.os.1;have ab:=aI.le e2 e6;have calm:∀m' wl',WR m' wl' w₁->(∀r b,m'.blk r=some b->E.fC b->m'.loose r)->Co P E.fC E.w0 (λ_=>False) (λi=>G4 (aq i)) m' wl' _ w₁ _:=λm' wl' hw hf=>U.PX av hw (λb hb=>⟨cY (Y b hb).1 U.sz,(hold b (Y b hb).1).trans (Y b hb).2⟩) hf (da az U.sz) ⟨U.os.1.trans aj.1,U.os.2.trans aj.2⟩ ap
  have mz:∀m',RR m' (λi=>G4 (aq i)) (λ_=>False) []:=λm'=>by
   refine⟨λr vs hr=>(by cases hr),λj J n hj=>?_,λr hr=>(by cases hr)⟩;obtain⟨q,e⟩:=uC (av j);rw[e]at hj;cases hj
  rcases au with⟨l,cp,rfl,aP⟩|⟨b1,off,spot,l,cp,cs,ty,fz,rfl,aQ,aw,ac,aR⟩
  cases e3 with
  |fu=>
   exact aG l cp aP m0 _ _ _ _ ar _ _ _ ak (calm m0 wl ad ay) (mz m0) (.cons (o:=⟨fn,eM o.dst tm (.slice none l cp),.inRegion ops rest::k⟩) (ht.eM o.dst (.fu l cp)) a0) (by simp[an])
  cases e3 with
  |@slice _ a' _ _ ha=>
   cases ha with
   |@mk _ b' _ _ ax=>
    obtain⟨o1,o2,g1,g2,g3⟩:=e4.obj b1 b' ax;have ao:(tp aa (along aa (w2.at d2))).heap[b1]?=some (.cells cs ty fz):=aQ;rw[ao]at g1;cases g1
    cases g3 with
    |@cells _ cs' _ _ aB aS=>
     have aT:=Hx aS aw;subst aT;have aU:aB=fz:=e4.fz b1 b' _ _ _ _ _ _ ax ao g2 (ac dx ab);subst aU;have aE:E₂.w0.heap.size<=b':=U.fresh hR.UY ax (ac dx ab)
     have ae:∀s,m0.blk s≠some b':=λs hs=>by
      have:=(af.lt hs).2;omega
     have hG:wl.heap.size<m0.G↔b'<m0.G:=by
      have h1:=af.Na;have h2:=af.JQ;constructor<;>intro x<;>omega
     have aV:=ad.P' ae hG g2 aw;have aC:=Ren.uO ad.gM ae hG
     have aW:∀r b,(m0.ext wl.heap.size b' ad.gM ae hG).blk r=some b->E.fC b->(m0.ext wl.heap.size b' ad.gM ae hG).loose r:=λr b hr hF=>by
      by_cases e:r=wl.heap.size;subst e;simp[Ren.ext]at hr;have:=(Y b hF).1;omega;have aX:=by simpa[Ren.ext,e]using hr
      have:=ay r b aX hF;simpa[Ren.ext,e]using this
     have aD:(m0.ext _ b' ad.gM ae hG).blk wl.heap.size=some b':=by simp[Ren.ext]
     exact aH off spot l cp cs' ty aB aR aw _ _ _ _ _ ar _ _ _ (ak.P' _ ae hG) (calm _ _ aV aW) (mz _) (.cons (o:=⟨fn,eM _ tm _,.inRegion ops rest::k⟩) ((ht.mono aC).eM _ (.slice l cp (.mk aD))) (a0.mono aC)) (by simp[an])
theorem dl.phase{i:Nat}{rest:List Nat}{o:Oper}{gO:Func}{c:Code}{ars:Array Operand}{ts:Array bH}
  (af:∀b,b<E.w0.heap.size->E.fC b\/E.w0.heap[b]?=some oJ) (hi:ops[i]?=some o) (au:fk o (b7 ops tm)=true) (hf:P.funcs[f]?=some gO) (hb:gO.body=some c) (hn:gO.name≠ "runtime.NumGoroutine") (ho:o.op=.call {callee:=.value (.func f),args:=ars,argTypes:=ts}) (av:∀x∈ars.toList,dP E.fw E.gl x)
  (hph:∀m w ad T,Rg E m->WR m wl w->ep m (ars.map (iS tm)) ad->(∀ps,T=[ps]->ps.mode≠.panicking [bB])->∃(U:Env P)(tm1:Array Value)(m1:Ren)(Y:World),U.Z=E.Z/\U.T=T/\U.w0=w/\(∀b,U.fC b↔b<w.heap.size)/\Rg U m1/\WR m1 Y w/\(∀r b,m1.blk r=some b->m1.loose r)/\ep m1 tm1 (ad++bo (gO.ntmps-ars.size) hU)/\
    ((∀(E₂:Env P)ag aa ah,E₂.Z=E.Z->E₂.T=T->E₂.w0=w->(aa=[]\/∃k2,aa=.code .ret::k2)->Bj P E₂ gO ag ah R0 R1->dl E₂ [⟨f,ag,aa⟩] ah [])->dl U [⟨f,tm1,[.code c]⟩] Y []))
  (aw:∀l cp,R0 l cp->dl E (⟨fn,eM o.dst tm (.slice none l cp),.inRegion ops rest::k⟩::os) wl [])
  (ax:∀off spot l cp cs e f,R1 off spot l cp cs e f->(∀v∈cs.toList,Flat v)->dl E (⟨fn,eM o.dst tm (.slice (some ⟨wl.heap.size,off,spot⟩) l cp),.inRegion ops rest::k⟩::os) {wl with heap:=wl.heap.push (.cells cs e f)} []) :
  dl E (⟨fn,tm,.inRegion ops (i::rest)::k⟩::os) wl []:=by
 intro m Pd ρ gs w sl t fr' cs' ab ay az ae h0
 have a0:∀i,(ρ i).sum=none:=by
  intro i
  cases e:(ρ i).sum with
  |none=>rfl|some x=>
   obtain⟨r,vs,hx,_⟩:=az.only i x.1 x.2 e;cases hx
 refine turn (Z:=E.Z) (a:=G fr' cs') (K:=λj=>(ρ j).sum) (N:=gs.size) rfl ?_ ρ gs w sl t ay (λ_=>rfl) h0 rfl;intro ρ' gs' w' aE aj d t' W hK ak hN;have a3:=ae
 cases ae with
 |@cons _ _ O l ht a4=>
  have hy:fk o (b7 ops O)=true:=by rw[show b7 ops O=b7 ops tm from funext (lK ops ht)];exact au
  have a5:=lH (P:=P) (fn:=fn) (k:=k) (rest:=rest) (cs':=cs') (w:=w'.at d) hi hy;have al:=Fc P hf hb hn (iS O) rfl ho (w'.at d);have ha:ep m (ars.map (iS tm)) (ars.map (iS O)):=kh (fw:=m.fw) (gl:=E.gl) (λx hx=>Km ht ab.pA.ou x hx) (λx hx=>by rw[ab.fw];exact av x hx)
  have a6:ft P true (fN fn O (.inRegion ops (i::rest)::k)) cs' none (bD (iS O) o) (w'.at d)=.go (G (fN f (ars.map (iS O)++bo (gO.ntmps-ars.size) hU) [.code c]) (fN fn O (.inRegion ops (i::rest)::k)::cs')) (w'.at d) #[]:=by
   unfold ft;simp only[if_true,al];simp[ge,G,fN,g9,hf,hb,bN]
  have a7:=bW (P:=P) (sl:=aj) (i:=0) ak (show b5 P (0==0) _ (w'.at d)=_ from a5.trans a6);rw[a7];refine E.Z.next _ _ _ _ ?_;have a8:0<gs'.size:=(bm.1 ak).1
  have ai:∀ps,(fN fn O (.inRegion ops (i::rest)::k)::cs')=[ps]->ps.mode≠.panicking [bB]:=by
   rintro ps e;cases e;simp[fN]
  obtain⟨U,tm1,m1,Y,a9,a',ac,am,aA,an,aB,aC,ao⟩:=hph m (w'.at d) (ars.map (iS O)) (fN fn O (.inRegion ops (i::rest)::k)::cs') ab W.main ha ai;have ap:∀i,(ρ' i).sum=none:=λi=>(hK i).trans (a0 i);have aq:=W.xb (gs':=(gs'.map (woken P (G (fN fn O (.inRegion ops (i::rest)::k)) cs') (G (fN f (ars.map (iS O)++bo (gO.ntmps-ars.size) hU) [.code c]) (fN fn O (.inRegion ops (i::rest)::k)::cs')) _)).setIfInBounds 0 _) (fn:=(G (fN fn O (.inRegion ops (i::rest)::k)) cs').frame.fn) (pos:=(G (fN fn O (.inRegion ops (i::rest)::k)) cs').frame.place) (es:=#[]) (.refl m) (.refl m _) (by simp) W.main (by simp) (gF _);have ar:Co P _ U.w0 _ _ m1 Y _ _ _:=aq.PX ap an (λb hb=>by rw[ac];exact⟨(am b).1 hb,rfl⟩) (λr b hr _=>aB r b hr) (by rw[ac];exact cZ _) (by rw[ac];exact⟨rfl,rfl⟩) (λb hb=>.inl ((am b).2 (by rw[ac]at hb;exact hb)));rw[<-a9];refine ao ?_ m1 _ _ _ _ aj _ _ _ aA ar ⟨λr vs hr=>(by cases hr),λj J n hj=>?_,λr hr=>(by cases hr)⟩ (.cons (o:=⟨f,tm1,[.code c]⟩) aC (by rw[a'];exact .nil)) (by simp[a8]);intro E₂ ag aa ah z2 T2 W2 aD hR;exact KO af (λb hb=>by rw[W2];exact W.fix b hb) W.f0 (by rw[W2];exact W.sz) (by rw[W2];exact W.os) z2 T2 ab (by rw[W2];exact W.main) ht a4 hf hi aD hR aw ax;obtain⟨q,e⟩:=uC (ap j);rw[e]at hj;cases hj
end
end
section
open Go.Conc
variable {T:Tables} {d:TypeDesc} {t:bH} {info:bH->Option TypeInfo} {i:TypeInfo} {v:Value}
def N2:Value->Bool
 |.bool _|.int _ _|.string _|.pointer none|.slice none _ _|.map none|.chan none|.nilFunc|.nilIface=>true|_=>false
theorem Cn(h:N2 v=true):Plain v:=by
 unfold N2 at h;split at h<;>first|trivial|cases h
def RQ(fw gl:Nat->Bool):Operand->Bool
 |.tmp _=>true|.const v=>N2 v|.global g=>gl g|.func f=>fw f
theorem OY{fw gl:Nat->Bool}{x:Operand}(h:RQ fw gl x=true):dP (λf=>fw f=true) (λg=>gl g=true) x:=by
 cases x with
 |tmp t=>trivial|const v=>exact Cn h|global g=>exact h|func f=>exact h
def FN:Operand->Bool
 |.tmp _=>true|.const v=>N2 v|_=>false
def Nz(P:Program)(st:Bool)(O:Array bH)(n:Nat):Builtin->Bool
 |.append|.clear|.copy|.max|.min|.recover=>true|.cap|.len=>(O[0]?).all (rL P)|.unsafeString=>st&&n==2|_=>false
def Sw(P:Program)(st:Bool)(t:bH):Bool:=match P.underlying t with
 |some (.map k _)=>qv P 10000 k&&(st || nT P Op.maxDepth k)
 |_=>true
def UD(P:Program)(st:Bool)(t:bH)(y:Operand):Bool:=st || nT P Op.maxDepth t || (isNil y&&match P.underlying t with|some (.pointer _)|some (.interface _)|none=>true|_=>false)
def Ga(P:Program)(fw gl:Nat->Bool)(st:Bool)(op:Op):Bool:=
 op.operands.all (RQ fw gl)&&match op with
 |.move _|.assign _|.pick ..|.alloc _|.box ..|.build ..|.buildSlice ..|.load ..|.store ..|.nilCheck _|.unOp ..|.makeInterface ..|.makeMap ..|.makeSlice ..|.slice ..|.fieldAddr ..|.field ..|.indexAddr ..|.index ..|.entryStore ..|.range ..|.next ..|.entry _|.extract ..|.panic _|.send .. => true|.binOp o t _ y _=>(match o with|.eql|.neq=>UD P st t y|_=>true)
 |.convert s d _=>C2 P s d|.makeFunc (.func f) _ _=>fw f|.lookup t ..|.mapUpdate t ..|.mapEntry t .. => Sw P st t|.typeAssert _ _ _ ok=>ok|.call c=>(match c.callee with
  |.value _=>true|.builtin b=>Nz P st c.argTypes c.args.size b|.invoke .. => false)
 |.defer c=>(match c.callee with
  |.value _=>true|_=>false)
 |_=>false
def jK(ok:Oper->Bool):Code->Bool
 |.skip|.exit _|.label _|.goto _|.ret=>true|.region _ ops _=>ops.all ok|.seq a b=>jK ok a&&jK ok b|.cond c a b=>FN c&&jK ok a&&jK ok b|.block _ c|.loop c|.scope c=>jK ok c|.rangeFunc f _ a b=>FN f&&jK ok a&&jK ok b|.refuse _=>false
section
variable {P:Program} {fw gl:Nat->Bool} {st:Bool}
theorem Q1(h:Sw P st t=true):P7 P st t:=by
 intro k e O;unfold Sw at h;rw[O]at h;simp only[ek,et]at h;exact h
theorem SI{y:Operand}(h:UD P st t y=true):TN P st t y:=by
 unfold UD at h;simp only[et,ek]at h;rcases h with(h|h)|⟨U,O⟩
 exact .inl h;exact .inr (.inl h);refine .inr (.inr ⟨U,λd W=>?_⟩);rw[W]at O;cases d<;>first|exact .inl ⟨_,rfl⟩|exact .inr ⟨_,rfl⟩|cases O
theorem uW{op:Op}(h:Ga P fw gl st op=true):OkOp P (λf=>fw f=true) (λg=>gl g=true) st op:=by
 unfold Ga at h;rw[ek]at h;obtain⟨W,O⟩:=h;refine⟨λx Y=>OY ?_,?_⟩;rw[br]at W;rw[bq]at Y;obtain⟨i,hi,rfl⟩:=bp.1 Y;exact W i hi
 cases op with
 |binOp o t x y s=>
  rintro(rfl|rfl)<;>exact SI O
 |convert s d x=>exact O|makeFunc f a b=>cases f<;>first|exact O|cases O
 |lookup|mapUpdate|mapEntry=>exact Q1 O|typeAssert=>exact O|call c=>
  obtain⟨ce,ars,ts⟩:=c
  cases ce with
  |value x=>trivial|invoke=>cases O
  |builtin b=>
   refine⟨?_,by rintro rfl;cases O⟩;cases b<;>first|trivial|cases O|skip
   intro t U;have O:(ts[0]?).all _=true:=O;rw[U]at O;exact O;intro t U;have O:(ts[0]?).all _=true:=O;rw[U]at O;exact O;have O:(st&&ars.size==2)=true:=O;show st=true/\ars.size=2;simpa using O
 |defer c=>
  obtain⟨ce,ars,ts⟩:=c;cases ce<;>first|trivial|cases O
 |_=>first|trivial|cases O
theorem oO{ok:Oper->Bool}:∀{c:Code},jK ok c=true->fF (λo=>ok o=true) c:=by
 have O:∀{x:Operand},FN x=true->uB x:=fun {x} h=>by
  cases x with
  |tmp t=>trivial|const v=>exact Cn h|global g=>cases h
  |func f=>cases h
 intro c;induction c with
 |skip|exit|label|goto|ret=>intro _;trivial|region i ops d=>
  intro h o ho;have h:ops.all ok=true:=h;rw[br]at h;rw[bq]at ho;obtain⟨i,hi,rfl⟩:=bp.1 ho;exact h i hi
 |seq a b U W=>
  intro h;have h:(jK ok a&&jK ok b)=true:=h;rw[ek]at h;exact⟨U h.1,W h.2⟩
 |cond x a b U W=>
  intro h;have h:(FN x&&jK ok a&&jK ok b)=true:=h;simp only[ek]at h;exact⟨O h.1.1,U h.1.2,W h.2⟩
 |block i c Y=>exact λh=>Y h|loop c Y=>exact λh=>Y h|scope c Y=>exact λh=>Y h|rangeFunc f ps a b U W=>
  intro h;have h:(FN f&&jK ok a&&jK ok b)=true:=h;simp only[ek]at h;exact⟨O h.1.1,U h.1.2,W h.2⟩
 |refuse=>intro h;cases h
end
def Gj:Nat->Value->Bool
 |0,_=>false|n+1,v=>match v with
  |.agg c=>c.all (Gj n)|.tuple c=>c.all (Gj n)|v=>N2 v
theorem xF:∀{n:Nat}{v:Value},Gj n v=true->∀m,VR m v v
 |n+1,v,h,m=>by
  unfold Gj at h;split at h;rw[br]at h;exact .agg rfl λi hi _=>xF (h i hi) m;rw[br]at h;exact .tuple rfl λi hi _=>xF (h i hi) m;exact VR.plain (Cn h)
theorem Ce{Y O:Type}{I:O->Prop}{f:Y->O->Option (ForInStep O)}(hf:∀a s r,f a s=some r->I s->∃s',(r=.yield s'\/r=.done s')/\I s'):∀(l:List Y){s s':O},I s->forIn l s f=some s'->I s'
 |[],s,s',h,e=>by simp at e;exact e▸h
 |a::l,s,s',h,e=>by
  rw[List.forIn_cons]at e
  cases U:f a s with
  |none=>rw[U]at e;cases e
  |some r=>
   rw[U]at e
   obtain⟨s1,W|W,h2⟩:=hf a s r U h
   subst W;exact Ce hf l h2 e;subst W;have:=e;cases this;exact h2
def l9(v:Value):Prop:=∀m,VR m v v
theorem l9.cells(h:l9 v):∀x∈v.cells.toList,l9 x:=by
 intro x O m;have U:=(h m).cells;rw[bq]at O;obtain⟨i,hi,rfl⟩:=bp.1 O;exact U.idx i hi hi
theorem l9.agg{c:Array Value}(h:∀x∈c.toList,l9 x):l9 (.agg c):=λm=>.agg rfl λi hi _=>h _ (by simp) m
theorem tM(ac:∀t i v,info t=some i->i.zero=some v->l9 v){fs:Array Field}(h:fb info fs=some i)(hv:i.zero=some v):l9 v:=by
 unfold fb at h;simp only[cF,cE]at h;obtain⟨st,W,U⟩:=h;rw[<-Array.forIn_toList]at W
 have hI:=Ce (I:=λs:Array Field×Nat×Nat×Nat×Nat×Bool×Bool×Option (Array Value)×String=>∀zs,s.2.2.2.2.2.2.2.1=some zs->∀x∈zs.toList,l9 x) (λa s r Y hs=>by
  cases hi:info a.type with
  |none=>rw[hi]at Y;cases Y
  |some j=>
   have aa:∀zs,(s.2.2.2.2.2.2.2.1.bind λz1=>j.zero.bind λz2=>pure (z1++z2.cells))=some zs->∀x∈zs.toList,l9 x:=by
    intro zs O;rw[cE]at O;obtain⟨z1,e1,O⟩:=O;rw[cE]at O;obtain⟨z2,e2,O⟩:=O;cases O;intro x hx;rw[Array.toList_append,List.mem_append]at hx;exact hx.elim (hs z1 e1 x) ((ac a.type j z2 hi e2).cells x)
   have ab:∀zs,(none:Option (Array Value))=some zs->∀x∈zs.toList,l9 x:=λzs O=>by cases O
   have key:∀zs,(if s.2.1+j.size > Made.mostCells then none else s.2.2.2.2.2.2.2.1.bind λz1=>j.zero.bind λz2=>pure (z1++z2.cells))=some zs->∀x∈zs.toList,l9 x:=by
    intro zs O;split at O
    cases O;exact aa zs O
   rw[hi]at Y;simp only[cG]at Y
   repeat' split at Y
   all_goals first
    |(cases Y;done)
    |(simp only[cE]at Y
      obtain⟨tg,_,Y⟩:=Y
      cases Y
      first|exact⟨_,.inl rfl,ab⟩|exact⟨_,.inl rfl,aa⟩|exact⟨_,.inl rfl,key⟩)
    |(cases Y;first|exact⟨_,.inl rfl,ab⟩|exact⟨_,.inl rfl,aa⟩|exact⟨_,.inl rfl,key⟩)) fs.toList (s:=(#[],0,0,1,0,false,true,some #[],"struct {")) (by
   intro zs O x hx;cases O
   simp at hx) W
 have O:∃zs,st.2.2.2.2.2.2.2.1=some zs/\v=.agg zs:=by
  split at U
  cases U;simp only[cH]at hv;obtain⟨zs,h1,h2⟩:=hv;exact⟨zs,h1,h2.symm⟩
  cases U;simp only[cH]at hv;obtain⟨zs,h1,h2⟩:=hv;exact⟨zs,h1,h2.symm⟩
 obtain⟨zs,h1,rfl⟩:=O;exact .agg (hI zs h1)
theorem Ea(W:∀t i v,info t=some i->i.zero=some v->l9 v)(h:fa info d=some i)(U:i.zero=some v):l9 v:=by
 have O:∀(d:TypeDesc)(s:String)(z:Value)(c:Bool)(n:Nat),(Made.word d s z c n).zero=some v->Plain z->l9 v:=by
  intro d s z c n e hz;cases e;exact λm=>VR.plain hz
 cases d with
 |struct fs=>exact tM W h U|pointer e=>
  simp only[fa,cF,cE]at h;obtain⟨j,_,h⟩:=h;split at h
  cases h;split at h
  cases h;simp only[cE]at h;obtain⟨s,_,h⟩:=h;cases h;exact O _ _ _ _ _ U trivial;simp only[cE]at h;obtain⟨s,_,h⟩:=h;cases h;exact O _ _ _ _ _ U trivial
 |slice e=>
  simp only[fa,cF,cE]at h;obtain⟨_,_,_,_,h⟩:=h;cases h;exact O _ _ _ _ _ U trivial
 |map k e=>
  simp only[fa,cF,cE]at h;obtain⟨_,_,_,_,_,_,_,_,h⟩:=h;cases h;exact O _ _ _ _ _ U trivial
 |chan dr e=>
  simp only[fa,cF,cE]at h;obtain⟨_,_,_,_,h⟩:=h;cases h;exact O _ _ _ _ _ U trivial
 |func ps rs b=>
  simp only[fa,cF,cE]at h;obtain⟨_,_,h⟩:=h;cases h;exact O _ _ _ _ _ U trivial
 |array n e=>
  simp only[fa,cF,cE]at h;obtain⟨j,hj,_,_,h⟩:=h;cases h;split at U
  cases U;split at U
  cases U;exact .agg (by simp);rw[cH]at U;obtain⟨z,h1,rfl⟩:=U;refine .agg λx Y=>?_;have hz:=(W e j z hj h1).cells;simp only[bq,Array.mem_flatten,Array.mem_replicate]at Y;obtain⟨xs,⟨_,rfl⟩,Y⟩:=Y;exact hz x (bq.2 Y)
 |_=>cases h
theorem vV(O:∀(t:Nat)(i:TypeInfo)v,T.types[t]?=some i->i.zero=some v->l9 v):∀(f:Nat)t i v,fd T f t=some i->i.zero=some v->l9 v
 |0,_,_,_,h,_=>by cases h
 |f+1,t,i,v,h,U=>by
  unfold fd at h
  split at h
  .exact O t i v h U
  .rw[cE]at h
   obtain⟨d,_,h⟩:=h
   exact Ea (vV O f) h U
theorem zZ(h:fa info d=some i):i.methods=#[]:=by
 cases d with
 |struct U=>
  have h:fb info U=some i:=h;unfold fb at h;simp only[cF,cE]at h;obtain⟨st,O,h⟩:=h;split at h <;>(cases h;rfl)
 |pointer e=>
  simp only[fa,cF,cE]at h;obtain⟨j,_,h⟩:=h;split at h
  cases h;split at h
  cases h;simp only[cE]at h;obtain⟨s,_,h⟩:=h;cases h;rfl;simp only[cE]at h;obtain⟨s,_,h⟩:=h;cases h;rfl
 |slice e=>
  simp only[fa,cF,cE]at h;obtain⟨_,_,_,_,h⟩:=h;cases h;rfl
 |map k e=>
  simp only[fa,cF,cE]at h;obtain⟨_,_,_,_,_,_,_,_,h⟩:=h;cases h;rfl
 |chan W e=>
  simp only[fa,cF,cE]at h;obtain⟨_,_,_,_,h⟩:=h;cases h;rfl
 |func ps rs b=>
  simp only[fa,cF,cE]at h;obtain⟨_,_,h⟩:=h;cases h;rfl
 |array n e=>
  simp only[fa,cF,cE]at h;obtain⟨j,Y,_,_,h⟩:=h;cases h;rfl
 |_=>cases h
theorem Hn(O:∀(t:Nat)(i:TypeInfo),T.types[t]?=some i->i.methods.find? (·.name == "")=none):∀(f:Nat)t i,fd T f t=some i->i.methods.find? (·.name == "")=none
 |0,_,_,h=>by cases h
 |f+1,t,i,h=>by
  unfold fd at h
  split at h
  .exact O t i h
  .rw[cE]at h
   obtain⟨d,_,h⟩:=h
   rw[zZ h];rfl
theorem uv(p:Nat)(a:Touch):ca #[] p≠some a:=by simp[ca,hC]
theorem Ip{P:Program}{E:Env P}{Post:Value->World->Prop}{f:b8}{gO:Func}{c:Code}{args O:Array Value}{W wl:World}{m:Ren}(hZ:E.Z=ending P Post)(Y:∀b,E.fC b->b<W.heap.size/\W.heap[b]?=E.w0.heap[b]?)(ab:∀r b,m.blk r=some b->E.fC b->m.loose r)(aa:∀b,b<E.w0.heap.size->E.fC b\/E.w0.heap[b]?=some oJ)(ac:E.w0.heap.size<=W.heap.size)(ad:W.os=E.w0.os/\W.output=E.w0.output)(hT:E.T=[])(hf:P.funcs[f]?=some gO)(hb:gO.body=some c)(ae:Rg E m)(hw:WR m wl W)(U:ep m O args)
  (h:dl E [⟨f,O++bo (gO.ntmps-O.size) hU,[.code c]⟩] wl []):tO P Post (solo (G (g9 P f args .normal) []) W) #[]:=by
 have hE:g9 P f args .normal=fN f (args++bo (gO.ntmps-args.size) hU) [.code c]:=by simp[g9,fN,hf,hb]
 have af:Co P E.fC E.w0 (λ_=>False) (λ_=>.quit 0) m wl #[G (g9 P f args .normal) []] W #[]:=by
  refine⟨hw,λi g hi hg=>?_,λ_ _=>rfl,λi m' hm=>(by cases hm),λi j m1 m2 _ hm _=>(by cases hm),λi j J1 J2 _ hJ _=>(by cases hJ),λp a b r U=>absurd U (uv p a),λi m' hm=>(by cases hm),λi J hJ=>(by cases hJ),λp a b U=>absurd U (uv p a),λop ag=>(by simp at ag),λp a U=>absurd U (uv p a),past_nil.clean,Y,ab,λi m' hm=>(by cases hm),λi J hJ=>(by cases hJ),ac,ad,λp a b U=>absurd U (uv p a),nofun,λb hb=>(aa b hb).imp id .inr⟩;have:=by simpa using(bm.1 hg).1
  omega
 have:=h m _ _ _ W none _ _ [] ae af ⟨λr vs hr=>(by cases hr),λi J n hi=>(by cases hi),λr hr=>(by cases hr)⟩ (by rw[hE,hT];exact .cons (o:=⟨f,O++bo _ hU,[.code c]⟩) (by rw[<-U.size];exact U.append (.replicate _ (.undef m))) .nil) rfl;rw[hZ]at this;exact this
variable {st:Bool} {f n:Nat} {fw gl:Nat->Bool} {P:Program} {m:Ren}
def OZ(M:Nat)(n:Nat):Bool:=M.testBit n
def SM(P:Program)(fw gl:Nat->Bool)(st:Bool)(f:Nat):Bool:=match P.funcs[f]? with
 |some fn=>fn.name != "runtime.NumGoroutine" && (match fn.body with
  |some c=>jK (λo=>Ga P fw gl st o.op) c|none=>false)
 |none=>false
def Nd(P:Program)(fw gl:Nat->Bool)(st:Bool):Oper->Prop:=λo=>Ga P fw gl st o.op=true
theorem Qo(h:SM P fw gl st f=true)(hm:m.ok=Nd P fw gl st):nf P m f:=by
 unfold SM at h
 cases U:P.funcs[f]? with
 |none=>rw[U]at h;cases h
 |some fn=>
  rw[U]at h;simp only[ek]at h;obtain⟨W,O⟩:=h;refine⟨fn,U,by simpa using W,?_⟩
  cases hb:fn.body with
  |none=>rw[hb]at O;cases O
  |some c=>
   rw[hb]at O;exact .inl ⟨c,rfl,by rw[hm];exact oO O⟩
def N8(P:Program)(fw gl:Nat->Bool)(st:Bool)(ex:Nat->Bool)(n:Nat):Bool:=(cX n).all λf=>!fw f || ex f || SM P fw gl st f
theorem DI{ex:Nat->Bool}(h:N8 P fw gl st ex n=true)(W:∀f,fw f=true->f<n)(hm:m.ok=Nd P fw gl st)(O:∀f,ex f=true->fw f=true->nf P m f):∀f,fw f=true->nf P m f:=by
 intro f U;unfold N8 at h;rw[List.all_eq_true]at h;have:=h f (by simpa using W f U);simp only[U,Bool.not_true,Bool.false_or,et]at this;rcases this with x|x
 exact O f x U;exact Qo x hm
def Sg(P:Program):Bool:=P.toTables.types.all λi=>match i.zero with
 |some v=>Gj 40 v|none=>true
def RU(P:Program):Bool:=P.toTables.types.all λi=>(i.methods.find? (·.name == "")).isNone
theorem OC(h:Sg P=true)(hmb:RU P=true):mn P:=by
 have W:∀(t:Nat)(i:TypeInfo)v,P.toTables.types[t]?=some i->i.zero=some v->l9 v:=by
  intro t i v ht U m;unfold Sg at h;rw[br]at h;obtain⟨O,rfl⟩:=bm.1 ht;have:=h t O;rw[U]at this;exact xF this m
 have Y:∀(t:Nat)(i:TypeInfo),P.toTables.types[t]?=some i->i.methods.find? (·.name == "")=none:=by
  intro t i ht;unfold RU at hmb;rw[br]at hmb;obtain⟨O,rfl⟩:=bm.1 ht;simpa using hmb t O
 refine⟨λt i v ht U m=>?_,λt i ht=>?_⟩;have ht:P.toTables.info? t=some i:=ht;unfold Tables.info? at ht;split at ht;exact W t i v ht U m;exact vV W _ t i v ht U m;have ht:P.toTables.info? t=some i:=ht;unfold Tables.info? at ht;split at ht;exact Y t i ht;exact Hn Y _ t i ht
def Ut:Nat:=16296291696013673141605707346198838935449560434141168097322037386652118454261163305065086976
def Sf:Nat:=1001570083691504317195401104025185627287091139835923004101470451620903362718842486784
def UQ:Nat:=7237005590390986380874373471172107595023005440485116358029236060886847717376
def uc:Nat->Bool:=OZ Ut
def tR:Nat->Bool:=OZ Sf
def MX:Nat->Bool:=OZ UQ
def qV(g:Nat):Bool:=g==0 || g==2 || g==3 || g==4
def Ct(_:Nat):Bool:=false
theorem Pe:mn prog:=OC (by kernel_rfl) (by kernel_rfl)
theorem SQ:N8 prog uc qV true (λf=>f==100 || f==232) 304=true:=by kernel_rfl
theorem sendAll:N8 prog tR Ct false (λ_=>false) 304=true:=by kernel_rfl
theorem TP:N8 prog MX Ct false (λ_=>false) 304=true:=by kernel_rfl
theorem follows:prog.follows .rangeFuncRecover=true:=by kernel_rfl
theorem xX:prog.globals.size=5:=by kernel_rfl
theorem sK{M:Nat}(O:M >>> n=0)(h:M.testBit f=true):f<n:=by
 apply dt;intro U;have e:(M >>> n).testBit (f-n)=M.testBit f:=by rw[Nat.testBit_shiftRight,Nat.add_sub_of_le (Nat.le_of_not_lt U)]
 rw[O,h,Nat.zero_testBit]at e;cases e
theorem S8(f:Nat)(h:uc f=true):f<304:=sK (M:=Ut) (by kernel_rfl) h
theorem RJ(f:Nat)(h:tR f=true):f<304:=sK (M:=Sf) (by kernel_rfl) h
theorem Um(f:Nat)(h:MX f=true):f<304:=sK (M:=UQ) (by kernel_rfl) h
theorem CO{P:Program}{fw gl:Nat->Bool}{m:Ren}(O:m.ok=Nd P fw gl st)(U:m.fw=λf=>fw f=true)(hE:tA P m)(W:st=true->gJ m)(hg:∀g,gl g=true->m.blk g=some g):l6 P m (λg=>gl g=true) st:=
 ⟨hE,W,λh=>h.elim,hg,λo Y=>by rw[O]at Y;rw[U];exact uW Y⟩
theorem LP:Extern.findNext f100=none:=by kernel_rfl
theorem ML:Extern.findNext f232=none:=by kernel_rfl
theorem KB:Extern.find f100=some (Extern.SlicesOverlaps.overlaps f100.params f100.resultTypes):=by kernel_rfl
theorem MJ:Extern.find f232=some Extern.BytealgCompare.compare:=by kernel_rfl
section
variable {m:Ren}
theorem call100(O:gJ m):nf prog m 100:=
 ⟨f100,by kernel_rfl,by simp[f100],.inr ⟨by kernel_rfl,LP,_,KB,λm' a Y U W=>Hj (O.mono U) W⟩⟩
theorem call232:nf prog m 232:=
 ⟨f232,by kernel_rfl,by simp[f232],.inr ⟨by kernel_rfl,ML,_,MJ,λm' a U W O=>Ms O⟩⟩
theorem SH(O:m.ok=Nd prog uc qV true)(U:m.fw=λf=>uc f=true)(hG:m.G=5)(W:gJ m)(hg:∀g,qV g=true->m.blk g=some g):l6 prog m (λg=>qV g=true) true:=
 CO O U ⟨Pe,by rw[hG,xX],λf Y=>by
  rw[U]at Y;refine DI SQ S8 O (λf he _=>?_) f Y;simp only[et,beq_iff_eq]at he;rcases he with rfl|rfl
  exact call100 W
  exact call232,follows⟩ (λ_=>W) hg
theorem Rm(O:m.ok=Nd prog tR Ct false)(U:m.fw=λf=>tR f=true)(Y:m.G=5):l6 prog m (λg=>Ct g=true) false:=
 CO O U ⟨Pe,by rw[Y,xX],λf W=>by
  rw[U]at W
  exact DI sendAll RJ O (λf he _=>by cases he) f W,follows⟩ (λh=>by cases h) (λg hg=>by cases hg)
theorem Uh(O:m.ok=Nd prog MX Ct false)(U:m.fw=λf=>MX f=true)(Y:m.G=5):l6 prog m (λg=>Ct g=true) false:=
 CO O U ⟨Pe,by rw[Y,xX],λf W=>by
  rw[U]at W
  exact DI TP Um O (λf he _=>by cases he) f W,follows⟩ (λh=>by cases h) (λg hg=>by cases hg)
end
end
end Go.Proofs.YtocbogeoffeolaaGreatDoor
