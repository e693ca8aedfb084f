import Derived.Test.YtocbogeoffeolaaGreatDoorComAE
import Derived.Conc.Beside
import Derived.Conc.CrowdComm
import Derived.Test.YtocbogeoffeolaaGreatDoorChecked
set_option linter.all false
set_option maxHeartbeats 8000000
set_option maxRecDepth 1000000
open Array renaming getElem?_setIfInBounds_ne->bj,getElem?_eq_some_iff->bk,getElem?_eq_getElem->bl,replicate->bm,mem_iff_getElem->bn,mem_toList_iff->bo,all_eq_true->bp,getElem?_setIfInBounds_self_of_lt->bq,getD_eq_getD_getElem?->br,empty_append->bs,getElem?_push->bt,getElem?_map->bu,append_empty->bv,swapAt!->bw,ext->bx
open Go renaming stepG->bz,communicate->b4,yielded->b5,Trace->b6,unwind->b7,goexitEntry->b8,ways->b9,execOp->bA,runN->bB,lone->bC,FuncId->bD,step_lone_ended->bE,partners->bF,doReturn->bG,step_lone_go->bH,TypeId->bI,commResult->bJ,results->bK,seen->bL,offeredValue->bM,stepT->bN,runT->bO,HappensBefore->bP,Race->bQ
open Go.Conc renaming mem_ofEvents->bR,offersAt_of_not_blocked->bS,runT_crowd_go->bT,served->bU,rcase->bV,crowd->bW,touchAt->bX,offersAt->bY,ofEvents_eq->bZ,scase->ca,getElem?_stand->cb,getElem?_append_old->cd,offersAt_ph->cf,noRace_append->cg,offersAt_parked_send->ci,mem_seen->cj,Knows->ck,lt_size_of_getElem?->cm,crowd_pick->cn,knows_own->cq,finishPartner_at->cr,runT_crowd_comm->ct,mem_of_getElem?->cu,again_running->cv,woken_quitsD->cw,partners_one->cy,partners_nil->cz,illMade->c7,crowd_waits->c8,woken->c9,awake->cA
open Option renaming bind_eq_some_iff->cB,bind_eq_bind->cC,bind_some->cD,map_eq_some_iff->cE,map_some->cF,getD_some->cG
open Go.ConcN renaming upd_same->cH,upd_ne->cI,upd->cJ
open List renaming mem_cons->cK,not_mem_nil->cL,mem_map->cM,mem_iff_getElem?->cN,mem_toArray->cO,mem_filter->cP,getElem?_cons_zero->cQ,getElem?_toArray->cR,getElem?_eq_some_iff->cS,mem_of_getElem?->cT,range->cU
open Nat renaming lt_of_lt_of_le->cV,le_refl->cW,le_trans->cX,eq_zero_or_pos->cY,exists_eq_add_of_le->cZ
open Go.MemOp renaming ofEvents->da
open Option.some renaming injEq->db,inj->dc
open Classical renaming byContradiction->de,choose->dg,choose_spec->dh
open Bool renaming and_eq_true->dl,false_eq_true->dt,or_eq_true->dw,not_eq_true->dB
open Go.Made renaming reckon->dN,reckonStruct->dS,infoAt->ee
open Go.Region renaming wanted->ef,schedule->ek
open Go.stepG renaming apply->en,exec->et
open Go.MemAct renaming ofEvent->ey,touch?->eC
open Go.Stepped.next renaming injEq->fa
open Go.GStep renaming after->fb
open Go.Goroutine renaming callers->fd,frame->fi,again->fk,status->fm,finishComm->ft,endsWith->fv,canRun->fB
open Ne renaming symm->ga
open Go.Frame renaming enter->gc,catches->gd,finish->ge
open Go.Question renaming forced->gm
open Go.Trace renaming act?->gn,g?->gt
open Go.Sem renaming run->gv,bind->gx,runT->gy
open Go renaming undef->gz
open Bool renaming false->f?,true->t?
open Go renaming Program->P?,Value->v?,World->w?
open Go.Ending renaming returned->e?
open Go.Item renaming inRegion->r?
open Go.Obj renaming cells->c?
open Go.Value renaming int->n?,pointer->p?,string->s?
open List renaming length->l?
open Option renaming none->x?,some->y?
namespace Go.Proofs.YtocbogeoffeolaaGreatDoor
open Go.Proofs.Tryz
section
open Go.Conc
variable {fr':Frame} {g:Goroutine} {cs':List Frame}
structure LS where
 fr:Frame
 cs:List Frame
 w:w?
def LS.m(S:LS):Machine:=bC S.fr S.cs S.w
inductive F9(P:P?):LS->LS->Prop
 |go {fr cs w fM fN w₁ es}:bz P true (G fr cs) w=.go (G fM fN) w₁ es->F9 P ⟨fr,cs,w⟩ ⟨fM,fN,w₁⟩|send {fr cs w f0 c0 r v z w₁ es cap buf ix rcvd tm}:bz P true (G fr cs) w=.comm (G f0 c0) #[⟨.chan (some r),some v,z⟩] true .send w₁ es->w₁.1[r]?=some (.chan cap buf false ix rcvd tm)->buf.size<cap->
   F9 P ⟨fr,cs,w⟩ ⟨f0.finish (bJ #[⟨.chan (some r),some v,z⟩] .send 0 gz false),c0,{w₁ with heap:=w₁.1.setIfInBounds r (.chan cap (buf.push v) false (ix+1) rcvd tm)}⟩
section
variable {P:P?} {m:Ren} {T:List Frame} {gl:Nat->Prop} {st:Bool}
def lN(hm:¬m.jf){fr cs}(O:ed P m T (fr::cs) (fr'::cs')):¬AtClose fr:=by
 rintro⟨_,a,t,c,args,ds,e⟩;have h:=O.rM.defers;rw[e]at h;revert h;generalize fr'.defers=l;intro h
 cases h with
 |@cons _ d' _ _ U _=>
  obtain⟨W,Y⟩:=d';have ht:=U.target
  cases ht with
  |builtin _ _ _ h=>exact hm h
abbrev FV:Array Goroutine:=#[{(default:Goroutine)with status:=.finished}]
abbrev tY:Rest:={timers:=#[],alone:=x?,slice:=x?}
def sR{fr cs w k b sh w₁ es}(h:bz P t? (G fr cs) w=.comm g k b sh w₁ es):step P (bC fr cs w)=(b4 P tY FV 0 g k b sh w₁).1:=by unfold G at h;rw[step,bN,move_lone];simp[bO,bC,bw,h]
def De{fr:Frame}{cs:List Frame}{w:w?}{w₁:w?}{es:Array Event}(U:g.status=.running\/g.status=.blocked)(h:bz P t? (G fr cs) w=.go g w₁ es):step P (bC fr cs w)=.next (oneG g w₁):=by unfold G at h;rw[step,bN,move_lone];obtain O|O:=U<;>simp[bO,bC,oneG,bw,h,O]
def zW:∀(n:Nat){g:Goroutine}{w:w?},g.dyingOn P->∀fr cs w',bB P n (oneG g w)≠.next (bC fr cs w')
 |0,g,w,h,fr,cs,w',e=>by
  simp only[bB,fa,oneG,bC,Machine.mk.injEq]at e
  obtain⟨_,e,_⟩:=e
  obtain⟨_,d,U,_⟩:=h;have:=congrArg (λx=>x[0]?) e;simp only[cR,cQ,db]at this;rw[this]at U;cases U
 |n+1,g,w,h,fr,cs,w',e=>by
  obtain⟨g',w1,O,W⟩|⟨o,w1,O,Y⟩:=step_dyingOn (w:=w) h
  simp only[bB,O]at e;exact zW n W _ _ _ e;simp only[bB,O]at e;cases e
def B7(n:Nat){w:w?}(h:g.status=.blocked)(fr:Frame)(cs:List Frame)(w':w?):bB P n (oneG g w)≠.next (bC fr cs w'):=by
 intro e
 cases n with
 |zero=>simp only[bB,fa,oneG,bC,Machine.mk.injEq]at e;obtain⟨_,e,_⟩:=e;have:=congrArg (λx=>x[0]?) e;simp only[cR,cQ,db]at this;rw[this]at h;cases h
 |succ n=>
  obtain⟨f,c,s,O,off⟩:=g;subst h;obtain⟨U,w1,W,Y⟩:=endWith_ended w 2 ..
  have:step P (oneG {frame:=f,callers:=c,status:=.blocked,dying:=O,offers:=off} w)=.ended U w1:=by simp[step,bN,move,ask,askOn,oneG,runnable_eq,due,ahead,fB,List.range_succ,pure];rw[W]
  simp only[bB,this]at e;cases e
def vN{r:Nat}{v z:v?}{f0:Frame}{c0:List Frame}{w₁:w?}{cap:Nat}{buf:Array v?}{ix O:Nat}{tm:Bool}(W:w₁.1[r]?=y? (.chan cap buf f? ix O tm)) :
  (buf.size<cap/\(b4 P tY FV 0 (G f0 c0) #[⟨.chan (y? r),y? v,z⟩] t? .send w₁).1=.next (bC (f0.finish (bJ #[⟨.chan (y? r),y? v,z⟩] .send 0 gz f?)) c0 {w₁ with heap:=w₁.1.setIfInBounds r (.chan cap (buf.push v) f? (ix+1) O tm)}))\/
  (¬buf.size<cap/\((∃g w2,g.status=.blocked/\(b4 P tY FV 0 (G f0 c0) #[⟨.chan (y? r),y? v,z⟩] t? .send w₁).1=.next (oneG g w2))\/∃o w2,(b4 P tY FV 0 (G f0 c0) #[⟨.chan (y? r),y? v,z⟩] t? .send w₁).1=.ended o w2)):=by
 by_cases hb:buf.size<cap;simp[b4,W,ways,bF,hb,choose,gv,gm,bind,gx,pure,ft,bC,G];refine .inr ⟨hb,?_⟩
 cases U:waitingAt tY #[⟨.chan (y? r),y? v,z⟩] w₁ with
 |none=>exact .inr ⟨_,_,by simp[b4,W,ways,bF,hb,U];exact⟨q?,q?⟩⟩|some w2=>exact .inl ⟨{G f0 c0 with status:=.blocked,offers:=y? (#[⟨.chan (y? r),y? v,z⟩],.send)},w2,rfl,by simp[b4,W,ways,bF,hb,U,oneG]⟩
def GX{ch v z:v?}{f0:Frame}{c0:List Frame}{w₁:w?}(W:∀r,ch=.chan (y? r)->False) :
  ((∃g w2,g.status=.blocked/\(b4 P tY FV 0 (G f0 c0) #[⟨ch,y? v,z⟩] t? .send w₁).1=.next (oneG g w2))\/∃o w2,(b4 P tY FV 0 (G f0 c0) #[⟨ch,y? v,z⟩] t? .send w₁).1=.ended o w2):=by
 by_cases U:ch=.chan x?;subst U
 cases O:waitingAt tY #[⟨.chan x?,y? v,z⟩] w₁ with
 |none=>exact .inr ⟨_,_,by simp[b4,ways,O];exact⟨q?,q?⟩⟩|some w2=>exact .inl ⟨{G f0 c0 with status:=.blocked,offers:=y? (#[⟨.chan x?,y? v,z⟩],.send)},w2,rfl,by simp[b4,ways,O,oneG]⟩
 cases ch with
 |chan x=>
  cases x with
  |none=>exact absurd q? U|some r=>exact(W r q?).elim
 |_=>simp[b4]
def Open(m:Ren):Prop:=∀r r',m.ch r=y? r'->∃cap buf ix O tm,m.lS r=y? (.chan cap buf f? ix O tm)
def CP(hX:mF P m gl st)(hm:¬m.jf)(ho:Open m){fr cs}(hS:ed P m T (fr::cs) (fr'::cs')){w w'}(hw:WR m w w'){n f1 c1 w1}
  (h:bB P (n+1) (bC fr cs w)=.next (bC f1 c1 w1)):∃S,F9 P ⟨fr,cs,w⟩ S/\bB P n S.m=.next (bC f1 c1 w1):=by
 have hn:=lN hm hS;have U:=OX hX hS hn hw;generalize hs:bz P t? _ w=s at U
 cases U with
 |go g c w₁ es=>refine⟨⟨g,c,w₁⟩,.go hs,?_⟩;have:=bH (by unfold G at hs;rw[hs];rfl);simp only[bB,this]at h;exact h
 |ended o w₁ es=>have:=bE (by unfold G at hs;rw[hs];rfl);simp only[bB,this]at h;cases h
 |dies g w₁ es hd=>have:=De hd.1 hs;simp only[bB,this]at h;exact absurd h (zW n hd _ _ _)
 |spawn g c d w₁ es=>obtain⟨ab,W,Y,_⟩:=align hw;obtain⟨_,_,_,_,_,_,_,_,_,_,_,_,ac,_⟩:=M1 (main':=t?) hX hS hn W Y hs;exact absurd ac hm
 |comm g c k b sh w₁ es=>
  obtain⟨ab,W,Y,_⟩:=align hw;obtain⟨f0,c0,dA,ah,ai,k',ad,aj,e0,e1,e2,e3,e4,e5,e6,e7,e8⟩:=wA (main':=t?) hX hS hn W Y hs;obtain⟨rfl,rfl,ch,v,z,rfl⟩:=e2.resolve_left hm;have ae:=sR hs;simp only[bB,ae]at h
  have dead:((∃gg w2,fm gg=.blocked/\(b4 P tY FV 0 (G g c) #[⟨ch,y? v,z⟩] t? .send w₁).1=.next (oneG gg w2))\/∃o w2,(b4 P tY FV 0 (G g c) #[⟨ch,y? v,z⟩] t? .send w₁).1=.ended o w2)->False:=by rintro(⟨gg,w2,hg,e⟩|⟨o,w2,e⟩);rw[e]at h;exact B7 n hg _ _ _ h;rw[e]at h;cases h
  by_cases hc:∃r,ch=.chan (y? r);obtain⟨r,rfl⟩:=hc
  have O:∃r',dA.ch r=y? r':=by
   revert e5;generalize k'.toList=l;intro e5
   cases e5 with
   |@cons _ q _ _ hx _=>
    obtain⟨ak,al,am⟩:=q;have hv:=hx.chan
    cases hv with
    |chan hb=>exact⟨_,hb⟩
  obtain⟨r',O⟩:=O;rw[e7.nT hm]at O;obtain⟨cap,buf,ix,ag,tm,af⟩:=ho r r' O;have aa:=(e6.lS r _ (by rw[e7.lS];exact af)).1;obtain⟨hb,e⟩|⟨hb,e⟩:=vN (P:=P) (v:=v) (z:=z) (f0:=g) (c0:=c) aa
  rw[e]at h;exact⟨_,.send hs aa hb,h⟩;exact(dead e).elim;exact(dead (GX λr e=>hc ⟨r,e⟩)).elim
end
variable {S S':LS} {w w':w?}
def LS.on(S:LS)(τ:Nat->Question->Nat):LS:=⟨S.fr,S.cs,tp S.w τ⟩
def Bo(τ:Nat->Question->Nat)(w:w?):Prop:=∀i,i<w.drawn->τ i=w.tape i
def Fin(P:P?)(S:LS):Prop:=S.cs=[door P]/\S.fr.mode≠.run/\S.fr.defers=[]/\S.fr.roundOf=x?
structure xZ(P:P?)(gl:Nat->Prop)(st:Bool)(m:Ren)(T:List Frame)(S:LS)(fr':Frame)(cs':List Frame)(w':w?):Prop where
 qR:mF P m gl st
 jf:¬m.jf
 op:Open m
 stack:ed P m T (S.fr::S.cs) (fr'::cs')
 world:WR m S.w w'
def Fp{f f' c c'}(h:bC f c w=bC f' c' w'):f=f'/\c=c'/\w=w':=by simp only[bC,Machine.mk.injEq]at h;obtain⟨O,U,_⟩:=h;have:=congrArg (λx=>x[0]?) U;simp only[cR,cQ,db,Goroutine.mk.injEq]at this;exact⟨this.1,this.2.1,O⟩
def LS.KD(h:S.m=S'.m):S=S':=by obtain⟨f,c,w⟩:=S;obtain⟨rfl,rfl,rfl⟩:=Fp h;rfl
section
variable {P:P?} {m:Ren} {T:List Frame} {gl:Nat->Prop} {st:Bool}
def F9.next(h:F9 P S S'):step P S.m=.next S'.m:=by
 cases h with
 |go h=>exact bH (by unfold G at h;rw[h];rfl)|send h O hb=>
  have:=sR h;obtain⟨_,e⟩|⟨U,_⟩:=vN (P:=P) (v:=_) (z:=_) (f0:=_) (c0:=_) O
  exact this.trans e;exact absurd hb U
def F9.loc(O:xZ P gl st m T S fr' cs' w')(h:F9 P S S'):S.w.drawn<=S'.w.drawn/\S'.w.tape=S.w.tape/\∀τ,xo τ S.w S'.w->F9 P (S.on τ) (S'.on τ):=by
 cases h with
 |go h=>obtain⟨W,Y,h3⟩:=Sa O.qR O.stack (lN O.jf O.stack) O.world h;exact⟨W,Y,λτ U=>by obtain⟨es,e⟩:=h3 τ U;exact .go e⟩
 |send h hc hb=>obtain⟨W,Y,h3⟩:=NR O.qR O.stack (lN O.jf O.stack) O.world h;exact⟨W,Y,λτ U=>by obtain⟨es,e⟩:=h3 τ U;exact .send e hc hb⟩
def Ren.put(m:Ren)(r:Nat)(o:Obj):Ren:={m with lS:=λx=>if x=r then y? o else m.lS x}
def Ren.pY(m:Ren)(r)(o):m.Le (m.put r o):=⟨λ_ _ h=>h,λ_ _ h=>h,λ_ _ _=>Iff.rfl,λ_ h=>h,q?,q?,q?,q?,q?,q?,q?⟩
def WR.put(h:WR m w w'){r:Nat}{o:Obj}(ho:∃c b x s y t,o=.chan c b x s y t)(W:∃c b x s y t,w.1[r]?=y? (.chan c b x s y t)):WR (m.put r o) {w with heap:=w.1.setIfInBounds r o} w':=by
 obtain⟨c0,b0,x0,s0,y0,t0,W⟩:=W;have aa:=lh W
 have ne:∀s s',m.blk s=y? s'->r≠s:=by rintro s s' hb rfl;obtain⟨x,x',O,_,h3⟩:=h.obj _ _ hb;rw[W]at O;cases O;cases h3
 have get:∀s,r≠s->(w.1.setIfInBounds r o)[s]?=w.1[s]?:=λs U=>bj U;refine⟨λs s' hb=>?_,λs s' c e f c' e' f' hb O Y hn=>?_,λs s' c e f c' e' f' hb O Y hl=>?_,λs s' hb=>by simpa using h.NO s s' hb,(show m.G<=(w.1.setIfInBounds r o).size by simpa using h.NJ),h.KV,h.os,λs x U=>?_,λs s' hb hl=>?_,λs U=>?_,λs i v hv=>?_⟩;obtain⟨x,x',O,Y,h3⟩:=h.obj s s' hb;exact⟨x,x',by rw[get s (ne s s' hb)];exact O,Y,h3.mono (Ren.pY m r o)⟩;exact h.fz s s' _ _ _ _ _ _ hb (by rw[<-get s (ne s s' hb)];exact O) Y hn;exact h.all s s' _ _ _ _ _ _ hb (by rw[<-get s (ne s s' hb)];exact O) Y hl;by_cases e:s=r;subst e;simp only[Ren.put,if_true,db]at U;subst U;exact⟨by simp[aa],ho⟩;simp only[Ren.put,e,if_false]at U;obtain⟨g1,g2⟩:=h.lS s x U;exact⟨by rw[get s (ga e)];exact g1,g2⟩;obtain⟨c,e,f,hx⟩:=h.lk s s' hb hl;exact⟨c,e,f,by rw[get s (ne s s' hb)];exact hx⟩;obtain⟨O,c,f,hx⟩:=h.dead s U;refine⟨O,c,f,?_⟩;rw[get s];exact hx;rintro rfl;rw[W]at hx;cases hx;obtain⟨s',hb,hp⟩:=h.tK s i v hv;exact⟨s',hb,λc e f c' e' f' x g1=>hp c e f c' e' f' x (by rw[<-get s (ne s s' hb)];exact g1)⟩
def xZ.own(O:xZ P gl st m T S fr' cs' w')(hf:¬Fin P S)(h:F9 P S S'):∃dA aa ab w₁,xZ P gl st dA T S' aa ab w₁:=by
 obtain⟨ag,ac,ad,_⟩:=align O.world;have hn:=lN O.jf O.stack
 cases h with
 |go h=>obtain⟨dA,f,c,nQ,es,_,h1,h2,h3,h4,_⟩:=zP (main':=t?) O.qR O.stack hn (λa b c d=>hf ⟨a,b,c,d⟩) ac ad h;exact⟨dA,f,c,nQ,O.qR.mono h1,by rw[h1.jf];exact O.jf,λr r' hr=>by rw[h4.nT O.jf]at hr;rw[h4.lS];exact O.op r r' hr,h2,h3⟩
 |@send _ _ _ f0 c0 r v z w₁ es cap buf ix Y tm h hc hb=>
  obtain⟨f1,c1,dA,ae,af,k',nQ,ah,e0,_,_,h1,h2,h3,h4,h5,_⟩:=wA (main':=t?) O.qR O.stack hn ac ad h
  obtain⟨rfl,rfl⟩:f0=f1/\c0=c1:=by have:=congrArg fi e0;have h':=congrArg fd e0;exact⟨this,h'⟩
  have U:=(h2.rM).finish (VR.undef dA);refine⟨dA.put r (.chan cap (buf.push v) f? (ix+1) Y tm),ae.finish gz,af,nQ,(O.qR.mono h1).mono (Ren.pY ..),?_,?_,?_,?_⟩;show ¬dA.jf;rw[h1.jf];exact O.jf;intro s s' W;by_cases e:s=r;exact⟨cap,buf.push v,ix+1,Y,tm,by simp[Ren.put,e]⟩;have W:dA.ch s=y? s':=W;rw[h5.nT O.jf]at W;obtain⟨a,b,c,d,e',hx⟩:=O.op s s' W;exact⟨a,b,c,d,e',by simp only[Ren.put,e,if_false];rw[h5.lS];exact hx⟩;exact(h2.set (.refl dA) U.1 U.2.1 U.2.2 (fS ..) (iK ..)).mono (Ren.pY ..);exact h4.put ⟨_,_,_,_,_,_,q?⟩ ⟨_,_,_,_,_,_,hc⟩
def Mz:Extern.next "fmt's door" = x?:=by rfl
def LF(v)(w):∃o w',step P (bC ((door P).finish v) [] w)=.ended o w':=by
 have:bz P t? {frame:=(door P).finish v,callers:=[],status:=.running,dying:=x?} w=.ended (.stuck ("no extern row " ++ "fmt's door") (Frame.pos P ((door P).finish v))) w:=by have e:=Mz;simp only[door,ge,bz,et,e,Option.elim]
 exact⟨_,_,bE q?⟩
def EC(c)(w):∃o w',step P (bC ((door P).raise c) [] w)=.ended o w':=by
 have O:gd P ((door P).raise c)=t?:=by simp[door,Frame.raise,gd]
 have:∃o,bz P t? {frame:=(door P).raise c,callers:=[],status:=.running,dying:=x?} w=.ended o w:=by
  have hm:((door P).raise c).mode=.panicking c:=rfl;have U:((door P).raise c).defers=[]:=rfl
  exact⟨_,by
   unfold bz;unfold b7;simp only[hm,U,O,if_true]
   rfl⟩
 obtain⟨o,this⟩:=this;exact⟨_,_,bE (by rw[this];rfl)⟩
def BR(hS:ed P m T (S.fr::S.cs) (fr'::cs'))(hf:Fin P S)(n){O:LS}(hc:O.cs≠[]):bB P (n+1) S.m≠.next O.m:=by
 obtain⟨fr,cs,w⟩:=S;obtain⟨h1,h2,Y,h4⟩:=hf;simp only at h1 h2 Y h4 hc hS;subst h1
 have hk:=by cases hS with|one _ h _ _=>exact h
                                    |cons _ _ _ h=>cases h
 intro e
 have fin:(∃v w2,step P (bC fr [door P] w)=.next (bC ((door P).finish v) [] w2))\/(∃v w2,step P (bC fr [door P] w)=.next (bC ((door P).raise v) [] w2))\/∃o w2,step P (bC fr [door P] w)=.ended o w2:=by
  cases hm:fr.mode with
  |run=>exact absurd hm h2|panicking ch=>
   by_cases aa:fr.catches P=t?;refine .inr (.inr ?_)
   have:∃o,bz P t? {frame:=fr,callers:=[door P],status:=.running,dying:=x?} w=.ended o w:=by
    exact⟨_,by
     unfold bz;unfold b7;simp only[hm,Y,aa,if_true]
     rfl⟩
   obtain⟨o,this⟩:=this;exact⟨_,_,bE (by rw[this];rfl)⟩;refine .inr (.inl ⟨ch,w,bH ?_⟩);unfold bz;unfold b7;simp[hm,Y,aa]
  |returning=>
   cases hp:P.funcs[fr.fn]? with
   |none=>refine .inl ⟨fr.tmps.getD 0 gz,w,bH ?_⟩;simp[bz,b7,bG,hm,Y,hk,hp]
   |some fn=>
    cases hr:(bK fn fr.tmps).run P w with
    |ok v w2=>refine .inl ⟨v,w2,bH ?_⟩;simp[bz,b7,bG,hm,Y,hk,hp,hr]
    |halt x w2=>
     refine .inr (.inr ?_)
     have:∃o,(bz P t? {frame:=fr,callers:=[door P],status:=.running,dying:=x?} w).bare=.ended o w2:=by cases x<;>exact⟨_,by simp[bz,b7,bG,hm,Y,hk,hp,hr];rfl⟩
     obtain⟨o,this⟩:=this;exact⟨_,_,bE this⟩
 have two:∀(f:Frame)(w2:w?),(∃o w',step P (bC f [] w2)=.ended o w')->step P (bC fr [door P] w)=.next (bC f [] w2)->False:=by
  rintro f w2 ⟨o,w3,hh⟩ W;have U:bB P _ (bC fr _ w)=.next _:=e;simp only[bB,W]at U
  cases n with
  |zero=>simp only[bB,fa]at U;exact hc (Fp U).2.1.symm
  |succ n=>simp only[bB,hh]at U;cases U
 obtain⟨v,w2,W⟩|⟨v,w2,W⟩|⟨o,w2,W⟩:=fin
 exact two _ _ (LF v w2) W;exact two _ _ (EC v w2) W;have U:bB P _ (bC fr _ w)=.next _:=e;simp only[bB,W]at U;cases U
end
def mI(P:P?)(Stop:LS->Prop)(S:LS):Prop:=∀τ,Bo τ S.w->∃n O,bB P n (S.on τ).m=.next (LS.m O)/\Stop O/\O.cs≠[]
def As(Stop:LS->Prop):Prop:=∀S τ,Stop (S.on τ)->Stop S
def oF(P:P?)(Stop:LS->Prop)(S' S:LS):Prop:=¬Stop S/\∃τ,Bo τ S.w/\F9 P (S.on τ) S'
def xr(P:P?)(S:LS):Prop:=∃gl st m T fr' cs' w',xZ P gl st m T S fr' cs' w'
def WR.tp{m:Ren}{w:w?}(h:WR m w w')(τ:Nat->Question->Nat):WR m (tp w τ) w':=⟨h.obj,h.fz,h.all,h.NO,h.NJ,h.KV,h.os,h.lS,h.lk,h.dead,h.tK⟩
section
variable {P:P?} {m:Ren} {T:List Frame} {gl:Nat->Prop} {st:Bool} {Stop:LS->Prop}
def xZ.on{S fr' cs'}(h:xZ P gl st m T S fr' cs' w')(τ):xZ P gl st m T (S.on τ) fr' cs' w':=⟨h.qR,h.jf,h.op,h.stack,h.world.tp τ⟩
def JZ(w):Bo w.tape w:=λ_ _=>rfl
def VE(S:LS)(τ WB):(S.on τ).on WB=S.on WB:=rfl
def mI.step(hB:As Stop){S}(O:xr P S)(hH:mI P Stop S)(hn:¬Stop S)(τ)(W:Bo τ S.w):¬Fin P S/\∃S',F9 P (S.on τ) S':=by
 obtain⟨gl,st,m,T,fr',cs',w',O⟩:=O;obtain⟨n,Y,U,h2,h3⟩:=hH τ W
 cases n with
 |zero=>simp only[bB,fa]at U;obtain rfl:=LS.KD U;exact absurd (hB _ _ h2) hn
 |succ n=>refine⟨λhf=>BR (m:=m) (T:=T) (S:=S.on τ) (O.on τ).stack ⟨hf.1,hf.2⟩ n h3 U,?_⟩;obtain⟨S',g,_⟩:=CP (O.on τ).qR O.jf O.op (O.on τ).stack (O.on τ).world U;exact⟨S',g⟩
def xr.own{S}(O:xr P S)(U:¬Fin P S)(h:F9 P S S'):xr P S':=by obtain⟨gl,st,m,T,fr',cs',w',O⟩:=O;obtain⟨dA,f,c,w,h⟩:=O.own U h;exact⟨gl,st,dA,T,f,c,w,h⟩
def xr.on{S}(O:xr P S)(τ):xr P (S.on τ):=by obtain⟨gl,st,m,T,fr',cs',w',O⟩:=O;exact⟨gl,st,m,T,fr',cs',w',O.on τ⟩
def zi{S}(O:xr P S)(h:F9 P S S'):S.w.drawn<=S'.w.drawn/\S'.w.tape=S.w.tape/\∀τ,xo τ S.w S'.w->F9 P (S.on τ) (S'.on τ):=by obtain⟨gl,st,m,T,fr',cs',w',O⟩:=O;exact h.loc O
def mI.own(hB:As Stop){S}(hs:xr P S)(hH:mI P Stop S)(h:oF P Stop S' S):xr P S'/\mI P Stop S':=by
 obtain⟨hn,τ,W,ho⟩:=h;have hf:=(hH.step hB hs hn τ W).1;refine⟨(hs.on τ).own (λx=>hf ⟨x.1,x.2⟩) ho,λU O=>?_⟩;obtain⟨h1,h2,h3⟩:=zi (hs.on τ) ho;have h1:S.w.drawn<=S'.w.drawn:=h1;have h2:S'.w.tape=τ:=h2
 have Y:=h3 U λi _ b=>by rw[O i b,h2];rfl
 rw[VE]at Y
 have hb:Bo U _:=λi hi=>by rw[O i (cV hi h1),h2];exact W i hi
 obtain⟨n,aa,g1,g2,g3⟩:=hH U hb
 cases n with
 |zero=>simp only[bB,fa]at g1;obtain rfl:=LS.KD g1;exact absurd (hB _ _ g2) hn
 |succ n=>simp only[bB,Y.next]at g1;exact⟨n,aa,g1,g2,g3⟩
def Rn{U:Type}{r}{x:U}(h:¬Acc r x):∃y,r y x/\¬Acc r y:=by by_cases O:∃y,r y x/\¬Acc r y;exact O;exact absurd (Acc.intro x λy W=>de λY=>O ⟨y,W,Y⟩) h
open Classical in
def mI.acc(hB:As Stop){S:LS}(hs:xr P S)(hH:mI P Stop S):Acc (oF P Stop) S:=by
 apply de;intro ab;let X:={S:LS // xr P S/\mI P Stop S/\¬Acc (oF P Stop) S}
 have nx:∀x:X,∃y:X,oF P Stop y.1 x.1:=by rintro⟨x,h1,Y,h3⟩;obtain⟨y,hr,hy⟩:=Rn h3;have:=Y.own hB h1 hr;exact⟨⟨y,this.1,this.2,hy⟩,hr⟩
 let f:=λx=>dg (nx x);have hf:=λx=>dh (nx x);let s:Nat->X:=λn=>Nat.rec ⟨S,hs,hH,ab⟩ (λ_ x=>f x) n;have O:∀n,oF P Stop (s (n+1)).1 _:=λn=>hf _
 have one:∀n,(s n).1.w.drawn<=(s (n+1)).1.w.drawn/\(∀i,i<(s n).1.w.drawn->(s (n+1)).1.w.tape i=(s n).1.w.tape i):=by intro n;obtain⟨_,τ,W,ho⟩:=O n;obtain⟨h1,Y,_⟩:=zi ((s n).2.1.on τ) ho;exact⟨h1,λi U=>by rw[Y];exact W i U⟩
 have mono:∀k n,(s n).1.w.drawn<=(s (n+k)).1.w.drawn/\(∀i,i<(s n).1.w.drawn->(s (n+k)).1.w.tape i=(s n).1.w.tape i):=by
  intro k;induction k with
  |zero=>exact λn=>⟨cW _,λ_ _=>rfl⟩
  |succ k ih=>intro n;have a:=ih n;have b:=one (n+k);refine⟨cX a.1 b.1,λi U=>?_⟩;have:=b.2 i (cV U a.1);exact this.trans (a.2 i U)
 let τ:=λi=>if h:∃n,i<(s n).1.w.drawn then(s (dg h)).1.w.tape i else λ_=>0
 have W:∀n i,i<(s n).1.w.drawn->τ i=(s n).1.w.tape i:=by
  intro n i U;have hx:∃n,i<(s n).1.w.drawn:=⟨n,U⟩;have e:τ i=(s _).1.w.tape i:=dif_pos hx;have hk:=dh hx;rw[e];generalize dg hx=k at hk;obtain h|h:=Nat.le_total k n
  obtain⟨d,rfl⟩:=cZ h;exact((mono d k).2 i hk).symm;obtain⟨d,rfl⟩:=cZ h;exact(mono d n).2 i U
 have go:∀n,F9 P ((s n).1.on τ) ((s (n+1)).1.on τ):=by
  intro n;obtain⟨_,aa,hb,ho⟩:=O n;obtain⟨h1,Y,h3⟩:=zi ((s n).2.1.on aa) ho;have Y:(s (n+1)).1.w.tape=aa:=Y
  exact h3 τ λi _ U=>by rw[W (n+1) i U,Y];rfl
 have run:∀n k,bB P n ((s k).1.on τ).m=.next ((s (k+n)).1.on τ).m:=by
  intro n;induction n with
  |zero=>exact λk=>rfl|succ n ih=>intro k;simp only[bB,(go k).next];rw[ih (k+1),Nat.add_right_comm];rfl
 obtain⟨n,ac,g1,g2,_⟩:=hH τ λi U=>W 0 i U;have:=run n 0;rw[Nat.zero_add]at this;have e:=this.symm.trans g1;simp only[fa]at e;obtain rfl:=LS.KD e;exact(O n).1 (hB _ _ g2)
end
end
section
open Go.Conc
variable {fr':Frame} {S:LS} {cs':List Frame} {w' nQ:w?}
section
variable {P:P?} {m:Ren} {T:List Frame} {gl:Nat->Prop} {st:Bool} {Stop:LS->Prop}
def WR.rely{w}(h:WR m w w')(W:∀r r',m.blk r=y? r'->nQ.1[r']?=w'.1[r']?)(hs:w'.1.size<=nQ.1.size)(ho:nQ.os=w'.os):WR m w nQ:=by refine⟨λr r' hb=>?_,λr r' c e f Y e' f' hb O U hn=>?_,λr r' c e f Y e' f' hb O U hl=>?_,λr r' hb=>?_,h.NJ,cX h.KV hs,ho.trans h.os,h.lS,h.lk,h.dead,λr i v hv=>?_⟩;obtain⟨o,o',O,U,h3⟩:=h.obj r r' hb;exact⟨o,o',O,by rw[W r r' hb];exact U,h3⟩;exact h.fz r r' _ _ _ _ _ _ hb O (by rw[<-W r r' hb];exact U) hn;exact h.all r r' _ _ _ _ _ _ hb O (by rw[<-W r r' hb];exact U) hl;have:=h.NO r r' hb;exact⟨this.1,cV this.2 hs⟩;obtain⟨r',hb,hp⟩:=h.tK r i v hv;exact⟨r',hb,λc e f Y e' f' x g1 g2=>hp c e f Y e' f' x g1 (by rw[<-W r r' hb];exact g2)⟩
def xZ.rely(h:xZ P gl st m T S fr' cs' w')(O:∀r r',m.blk r=y? r'->nQ.1[r']?=w'.1[r']?)(U:w'.1.size<=nQ.1.size)(W:nQ.os=w'.os):xZ P gl st m T S fr' cs' nQ:=⟨h.qR,h.jf,h.op,h.stack,h.world.rely O U W⟩
structure rl(P:P?)(gl:Nat->Prop)(st:Bool)(m:Ren)(T:List Frame)(S:LS)(r r':Nat)(v v':v?)(fr':Frame)(cs':List Frame)(w':w?):Prop where
 qR:mF P m gl st
 jf:¬m.jf
 op:Open m
 ch:m.ch r=some r'
 val:VR m v v'
 tM:∃f0 wl cap buf ix rcvd tm,S=⟨f0.finish gz,S.cs,{wl with heap:=wl.1.setIfInBounds r (.chan cap (buf.push v) false (ix+1) rcvd tm)}⟩/\ed P m T (f0::S.cs) (fr'::cs')/\WR m wl w'/\wl.1[r]?=some (.chan cap buf false ix rcvd tm)/\buf.size<cap
def rl.rely{r r' v v'}(h:rl P gl st m T S r r' v v' fr' cs' w')(U:∀r r',m.blk r=y? r'->nQ.1[r']?=w'.1[r']?)(W:w'.1.size<=nQ.1.size)(Y:nQ.os=w'.os):rl P gl st m T S r r' v v' fr' cs' nQ:=by obtain⟨f0,wl,cap,buf,ix,O,tm,h1,h2,h3,h4⟩:=h.tM;exact⟨h.qR,h.jf,h.op,h.ch,h.val,f0,wl,cap,buf,ix,O,tm,h1,h2,h3.rely U W Y,h4⟩
def rl.done{r r' v v'}(h:rl P gl st m T S r r' v v' fr' cs' w'):∃o,xZ P gl st (m.put r o) T S (fr'.finish gz) cs' w':=by obtain⟨f0,wl,cap,buf,ix,U,tm,Y,h2,h3,h4,_⟩:=h.tM;have O:=h2.rM.finish (VR.undef m);refine⟨.chan cap (buf.push v) f? (ix+1) U tm,h.qR.mono (Ren.pY ..),h.jf,λs s' W=>?_,?_,?_⟩;by_cases e:s=r;exact⟨cap,buf.push v,ix+1,U,tm,by simp[Ren.put,e]⟩;obtain⟨a,b,c,d,e',hx⟩:=h.op s s' W;exact⟨a,b,c,d,e',by simp only[Ren.put,e,if_false];exact hx⟩;rw[Y];exact(h2.set (.refl m) O.1 O.2.1 O.2.2 (fS ..) (iK ..)).mono (Ren.pY ..);rw[Y];exact h3.put ⟨_,_,_,_,_,_,q?⟩ ⟨_,_,_,_,_,_,h4⟩
inductive Does(P:P?)(gl:Nat->Prop)(st:Bool)(Stop:LS->Prop)(m:Ren)(T:List Frame)(S:LS)(w':w?):GStep->Prop
 |go {S' dA fM fN w₁ es}:oF P Stop S' S->m.Le dA->xZ P gl st dA T S' fM fN w₁->gw m dA w' w₁->(∀e∈es,qd dA e)->Does P gl st Stop m T S w' (.go (G fM fN) w₁ es)|send {S' dA fM fN w₁ es r r' v v' z'}:oF P Stop S' S->m.Le dA->rl P gl st dA T S' r r' v v' fM fN w₁->gw m dA w' w₁->(∀e∈es,qd dA e)->Does P gl st Stop m T S w' (.comm (G fM fN) #[⟨.chan (some r'),some v',z'⟩] true .send w₁ es)
def along(w w':w?):Nat->Question->Nat:=λi=>if i<w.drawn then w.tape i else w'.tape (w'.drawn+(i-w.drawn))
def Hq(w w'):Bo (along w w') w:=λi O=>by simp[along,O]
def qf(w w'):Al (tp w (along w w')) w':=λi q=>by show w'.tape _ q=along w w' (w.drawn+i) q;have:¬w.drawn+i<w.drawn:=o!;simp[along,this]
def xZ.V'(hB:As Stop)(U:xZ P gl st m T S fr' cs' w')(hH:mI P Stop S)(hn:¬Stop S)(main'):Does P gl st Stop m T S w' (bz P main' (G fr' cs') w'):=by
 have hb:=Hq S.w w';have ae:=qf S.w w';obtain⟨hf,S',ho⟩:=hH.step hB ⟨_,_,_,_,_,_,_,U⟩ hn _ hb;have hg:oF P Stop S' S:=⟨hn,_,hb,ho⟩;have O:=U.on (along S.w w');have Y:=lN O.jf O.stack;generalize ab:S.on _=S0 at ho O Y;have W:Al S0.w w':=by rw[<-ab];exact ae
 have af:¬Fin P S0:=by rw[<-ab];exact λx=>hf ⟨x.1,x.2⟩
 cases ho with
 |go h=>obtain⟨dA,f,c,nQ,es,e,h1,h2,h3,h4,h5⟩:=zP (main':=main') O.qR O.stack Y (λa b c d=>af ⟨a,b,c,d⟩) O.world W h;rw[e];exact .go hg h1 ⟨U.qR.mono h1,by rw[h1.jf];exact U.jf,λr r' hr=>by rw[h4.nT U.jf]at hr;rw[h4.lS];exact U.op r r' hr,h2,h3⟩ h4 h5
 |@send _ _ _ f0 c0 r v z w₁ es cap buf ix ac tm h hc ag=>
  obtain⟨f1,c1,dA,al,am,k',nQ,an,e0,e,_,h1,h2,h3,h4,h5,h6⟩:=wA (main':=main') O.qR O.stack Y O.world W h;obtain⟨rfl,rfl⟩:f0=f1/\c0=c1:=⟨congrArg fi e0,congrArg fd e0⟩;obtain⟨kl⟩:=k'
  cases h3 with
  |@cons _ q _ _ hx aa=>
   cases aa;obtain⟨ao,ap,aq⟩:=q;have ah:=hx.chan;have ai:=hx.send
   cases ah with
   |@chan _ r' aj=>
   cases ai with
   |@some _ v' hv=>
   rw[e];have ak:Open dA:=λs s' ad=>by rw[h5.nT U.jf]at ad;rw[h5.lS];exact U.op s s' ad
   exact .send hg h1 ⟨U.qR.mono h1,by rw[h1.jf];exact U.jf,ak,aj,hv,f0,w₁,cap,buf,ix,ac,tm,q?,h2,h4,hc,ag⟩ h5 h6
end
variable {es:Array Event} {fn:bD} {m':Ren} {pos:String}
def mC:Go.Loc->Option Nat
 |.cell a=>y? a.block|.obj r=>y? r|_=>x?
def oG(t:b6)(g:Nat)(m:Ren):Prop:=∀p a b r,bX t p=y? a->mC a.loc=y? b->m.blk r=y? b->(m.loose r->a.write=t?)->ck t g p
def Pg(t:b6)(B:Nat):Prop:=∀p a b,bX t p=y? a->mC a.loc=y? b->b<B
def pB(m m':Ren):Prop:=∀r r' b,m.blk r=y? b->m'.blk r'=y? b->m.loose r/\m'.loose r'
def pB.symm{m}(h:pB m m'):pB m' m:=λr r' b x y=>⟨(h r' r b y x).2,(h r' r b y x).1⟩
section
variable {t u:b6} {g:Nat} {m dA:Ren} {B:Nat}
def nu{e}(h:qd m e){x}(O:(ey e).touch?=y? x)(hm:x.loc.isMemory=t?):∃b r,mC x.loc=y? b/\m.blk r=y? b/\(m.loose r->x.write=f?):=by
 obtain⟨loc,wr,Y⟩:=e
 cases loc with
 |cell a=>
  obtain⟨W,a0,ha,hw⟩:=h;simp only[ey,eC,db]at O;subst O;refine⟨a.block,a0.block,q?,ha.blk,λU=>?_⟩
  cases wr with
  |false=>rfl|true=>exact absurd U (hw q?)
 |obj r=>obtain⟨W,r0,hb,U⟩:=h;subst W;cases wr <;>(simp only[ey,eC,db]at O;subst O;exact⟨r,r0,q?,hb,λx=>absurd x U⟩)
 |mark k=>have hk:=h;cases k<;>first|exact hk.elim|(simp[ey,eC]at O)
 |output=>cases wr<;>cases Y <;>(simp only[ey,eC,db]at O;subst O;simp[Go.Loc.isMemory]at hm)
 |goroutines=>exact h.elim
def oG.grow(h:oG t g m)(U:m.Le dA)(W:Pg t B)(Y:∀r b,dA.blk r=y? b->m.blk r=y? b\/B<=b):oG t g dA:=by
 intro p a b r O hb hr hw;obtain x|x:=Y r b hr
 exact h p a b r O hb x λy=>hw ((U.loose r b x).2 y);have:=W p a b O hb;omega
def eI{p a}(h:bX (t++u) p=y? a):(p<t.size/\bX t p=y? a)\/∃op,op∈u/\(t++u)[p]?=y? op/\op.act.touch?=y? a:=by
 obtain⟨op,O,W⟩:=touch_of h;obtain⟨Y,U⟩|⟨_,U⟩:=getElem?_append_cases O
 exact .inl ⟨Y,by rw[touchAt_of U];exact W⟩;exact .inr ⟨op,U,O,W⟩
def oG.own(h:oG t g m):oG (t++da g fn pos es) g m:=by
 intro p a b r U hb W Y;obtain⟨_,O⟩|⟨op,O,h2,_⟩:=eI U
 exact(h p a b r O hb W Y).app _;have:=cq h2;obtain⟨e,_,rfl⟩:=bR O;exact this
def oG.other(h:oG t g m)(hd:pB m m'){j}(he:∀e∈es,qd m' e):oG (t++da j fn pos es) g m:=by
 intro p a b r ha hb W Y;obtain⟨_,O⟩|⟨op,O,_,h3⟩:=eI ha
 exact(h p a b r O hb W Y).app _;obtain⟨e,U,rfl⟩:=bR O
 have hm:a.loc.isMemory=t?:=by cases hl:a.loc<;>rw[hl]at hb<;>simp[mC]at hb<;>rfl
 obtain⟨b',r',g1,g2,g3⟩:=nu (he e U) h3 hm;rw[hb]at g1;cases g1;obtain⟨l1,l2⟩:=hd r r' b W g2;rw[Y l1]at g3;exact absurd (g3 l2) i!
def oG.clean(h:oG t g m)(hc:∀said,¬bQ said t)(he:∀e∈es,qd m e):∀said,¬bQ said (t++da g fn pos es):=by
 intro said;refine cg (hc said) (λop O=>by obtain⟨e,_,rfl⟩:=bR O;rfl) λi a ha op O b hb U=>?_;obtain⟨e,W,rfl⟩:=bR O;obtain⟨Y,h2,h3,_⟩:=U;obtain⟨b',r,g1,g2,g3⟩:=nu (he e W) hb (Y▸h2);refine h i a b' r ha (by rw[Y];exact g1) g2 λhl=>?_;obtain x|x:=h3
 exact x;rw[g3 hl]at x;cases x
def Pg.own(h:Pg t B){w wl}(Y:WR m wl w)(hB:B<=w.1.size)(he:∀e∈es,qd m e):Pg (t++da g fn pos es) w.1.size:=by
 intro p a b ha hb;obtain⟨_,O⟩|⟨op,O,_,h3⟩:=eI ha
 exact cV (h p a b O hb) hB;obtain⟨e,U,rfl⟩:=bR O
 have hm:a.loc.isMemory=t?:=by cases hl:a.loc<;>rw[hl]at hb<;>simp[mC]at hb<;>rfl
 obtain⟨b',r',W,g2,g3⟩:=nu (he e U) h3 hm;rw[hb]at W;cases W;exact(Y.lt g2).2
end
def I3{O:Type}(r:O->O->Prop)(n:Nat)(U q:Nat->O):Prop:=∃i,i<n/\r (U i) (q i)/\∀j,j≠i->U j=q j
def NT{α r}:∀(n)(q:Nat->α),(∀i,i<n->Acc r (q i))->Acc (I3 r n) q:=by
 intro n;induction n with
 |zero=>exact λq _=>.intro q λq' ⟨i,W,_⟩=>absurd W (Nat.not_lt_zero i)|succ n ih=>
  have key:∀x,Acc r x->∀q,q n=x->(∀i,i<n->Acc r (q i))->Acc (I3 r (n+1)) q:=by
   intro x hx;induction hx with
   |intro x _ aa=>
    intro q Y fl;have U:=ih q fl;revert Y fl;induction U with
    |intro q _ ab=>
     intro Y fl;refine .intro q λq' ⟨i,W,hr,hj⟩=>?_;by_cases e:i=n;subst e;exact aa _ (Y▸hr) q' q? λj O=>by rw[hj j (Nat.ne_of_lt O)];exact fl j O
     have U:i<n:=o!;refine ab q' ⟨i,U,hr,hj⟩ (by rw[hj n (ga e)];exact Y) λj O=>?_;by_cases ej:j=i;subst ej;exact(fl j O).inv hr;rw[hj j ej];exact fl j O
  exact λq h=>key _ (h n (Nat.lt_succ_self n)) q q? λi W=>h i (Nat.lt_succ_of_lt W)
section
variable {m dA m':Ren} {w w₁ wl wl':w?} {B:Nat}
def pB.grow(h:pB m m')(U:m.Le dA)(W:gw m dA w w₁)(Y:WR m' wl' w):pB dA m':=by
 intro r r' b h1 O;obtain x|x:=W.news r b h1
 obtain⟨a,b⟩:=h r r' _ x O;exact⟨(U.loose r _ x).2 a,b⟩;have:=(Y.lt O).2;omega
def gw.leaves(U:gw m dA w w₁)(Y:pB m m')(hw:WR m' wl' w):∀r r',m'.blk r=y? r'->w₁.1[r']?=w.1[r']?:=by intro r r' hb;by_cases W:∃s,m.blk s=y? r';obtain⟨s,O⟩:=W;exact U.still s r' O (Y s r r' O hb).1;exact U.old r' (hw.lt hb).2 λs O=>W ⟨s,O⟩
def lL(W:WR m wl w){c:Nat}{o}(O:∃a b x s y t,w.1[c]?=y? (.chan a b x s y t)):∀r r',m.blk r=y? r'->(w.1.setIfInBounds c o)[r']?=w.1[r']?:=by intro r r' hb;refine bj ?_;rintro rfl;obtain⟨x,x',_,U,Y⟩:=W.obj r _ hb;obtain⟨a,b,y,s,z,t,O⟩:=O;rw[O]at U;cases U;cases Y
def gw.chan(W:gw m dA w w₁)(Y:WR m wl w){c:Nat}{a b x s y t}(O:w.1[c]?=y? (.chan a b x s y t)):w₁.1[c]?=y? (.chan a b x s y t):=by rw[W.old c (lh O) λr hr=>?_];exact O;obtain⟨o,o',_,U,h3⟩:=Y.obj r _ hr;rw[O]at U;cases U;cases h3
end
variable {r:Nat}
section
variable {P:P?} {m:Ren} {T:List Frame} {gl:Nat->Prop} {st:Bool} {Stop:LS->Prop}
def Holds(S:LS)(r:Nat)(l:List v?):Prop:=∃cap buf ix O tm,S.w.1[r]?=y? (.chan cap buf f? ix O tm)/\buf.toList=l
def Holds.one{S l l'}(h:Holds S r l)(U:Holds S r l'):l=l':=by obtain⟨_,_,_,_,_,W,rfl⟩:=h;obtain⟨_,_,_,_,_,O,rfl⟩:=U;rw[W]at O;cases O;rfl
def xZ.Vb{S S'}(O:xZ P gl st m T S fr' cs' w')(hf:¬Fin P S)(h:F9 P S S'):∃dA ae af w₁,xZ P gl st dA T S' ae af w₁/\dA.ch=m.ch/\∀r r' l,m.ch r=y? r'->Holds S r l->Holds S' r l\/∃v,Holds S' r (l++[v]):=by
 obtain⟨am,ag,ah,_⟩:=align O.world;have hn:=lN O.jf O.stack
 cases h with
 |go h=>obtain⟨dA,f,c,nQ,es,_,h1,h2,h3,h4,_⟩:=zP (main':=t?) O.qR O.stack hn (λa b c d=>hf ⟨a,b,c,d⟩) ag ah h;refine⟨dA,f,c,nQ,⟨O.qR.mono h1,by rw[h1.jf];exact O.jf,λr r' hr=>by rw[h4.nT O.jf]at hr;rw[h4.lS];exact O.op r r' hr,h2,h3⟩,h4.nT O.jf,λr r' l hr hl=>.inl ?_⟩;obtain⟨cap,buf,ix,U,tm,hx⟩:=O.op r r' hr;have a:=(O.world.lS r _ hx).1;have b:=(h3.lS r _ (by rw[h4.lS];exact hx)).1;have:=hl.one ⟨cap,buf,ix,U,tm,a,q?⟩;exact⟨cap,buf,ix,U,tm,b,this.symm⟩
 |@send _ _ _ f0 c0 r0 v z w₁ es cap buf ix U tm h hc hb=>
  obtain⟨f1,c1,dA,aj,ak,k',nQ,an,e0,_,_,h1,h2,h3,h4,h5,_⟩:=wA (main':=t?) O.qR O.stack hn ag ah h;obtain⟨rfl,rfl⟩:f0=f1/\c0=c1:=⟨congrArg fi e0,congrArg fd e0⟩;have W:=(h2.rM).finish (VR.undef dA)
  have al:Open (dA.put r0 (.chan cap (buf.push v) f? (ix+1) U tm)):=by intro s s' ab;by_cases e:s=r0;exact⟨cap,buf.push v,ix+1,U,tm,by simp[Ren.put,e]⟩;have ab:dA.ch s=y? s':=ab;rw[h5.nT O.jf]at ab;obtain⟨a,b,c,d,e',hx⟩:=O.op s s' ab;exact⟨a,b,c,d,e',by simp only[Ren.put,e,if_false];rw[h5.lS];exact hx⟩
  refine⟨dA.put r0 _,aj.finish gz,ak,nQ,⟨(O.qR.mono h1).mono (Ren.pY ..),?_,al,?_,h4.put ⟨_,_,_,_,_,_,q?⟩ ⟨_,_,_,_,_,_,hc⟩⟩,h5.nT O.jf,λr r' l hr hl=>?_⟩;show ¬dA.jf;rw[h1.jf];exact O.jf;exact(h2.set (.refl dA) W.1 W.2.1 W.2.2 (fS ..) (iK ..)).mono (Ren.pY ..);obtain⟨ac,ad,Y,aa,ai,hx⟩:=O.op r r' hr;have a:=(O.world.lS r _ hx).1;have b:=(h4.lS r _ (by rw[h5.lS];exact hx)).1;have el:=hl.one ⟨ac,ad,Y,aa,ai,a,q?⟩;by_cases e:r=r0;subst e;rw[hc]at b;cases b;refine .inr ⟨v,cap,buf.push v,ix+1,U,tm,?_,by rw[el];simp⟩;simp[lh hc];refine .inl ⟨ac,ad,Y,aa,ai,?_,el.symm⟩;rw[bj (ga e)];exact b
def Ah{r' L}:∀(n){m S fr' cs' w'},xZ P gl st m T S fr' cs' w'->m.ch r=y? r'->∀{O},bB P n S.m=.next O.m->O.cs≠[]->Holds O r L->∀{l},Holds S r l->l <+: L
 |0,m,S,fr',cs',w',U,W,O,h,Y,hL,l,hl=>by
  simp only[bB,fa]at h
  obtain rfl:=LS.KD h
  rw[hl.one hL];exact List.prefix_refl _
 |n+1,m,S,fr',cs',w',U,W,O,h,Y,hL,l,hl=>by
  have hf:=λx=>BR U.stack x n Y h;obtain⟨S',ho,h2⟩:=CP U.qR U.jf U.op U.stack U.world h;obtain⟨dA,f,c,w,aa,ab,hh⟩:=U.Vb hf ho;have ih:=fun {l}=>Ah (L:=L) n aa (by rw[ab];exact W) h2 Y hL (l:=l);obtain x|⟨v,x⟩:=hh r r' l W hl
  exact ih x;exact(List.prefix_append l _).trans (ih x)
def mI.prefix{S}(U:xZ P gl st m T S fr' cs' w')(W:mI P Stop S){r'}(Y:m.ch r=y? r'){L}(hL:∀O,Stop O->Holds O r L){l}(hl:Holds S r l):l <+: L:=by obtain⟨n,O,h1,h2,h3⟩:=W _ (JZ _);exact Ah n U Y (S:=S) h1 h3 (hL _ h2) hl
def rl.next{S r' v v'}(h:rl P gl st m T S r r' v v' fr' cs' w')(Y:mI P Stop S){L}(hL:∀O,Stop O->Holds O r L):∃l,Holds S r (l++[v])/\(l++[v]) <+: L:=by
 obtain⟨o,hs⟩:=h.done;obtain⟨f0,wl,cap,buf,ix,U,tm,h1,h2,h3,h4,_⟩:=h.tM
 have W:Holds S r (buf.toList++[v]):=by rw[h1];refine⟨cap,buf.push v,ix+1,U,tm,?_,i!⟩;simp[lh h4]
 exact⟨_,W,Y.prefix hs (r':=r') h.ch hL W⟩
end
variable {buf:Array v?} {tm:Bool} {fr ps:Frame} {c cap s:Nat} {w:w?}
def Lv(P:P?):Nat->Goroutine->Prop
 |0,g=>g.status=.finished|n+1,g=>g.status=.finished\/(g.status=.running/\∃g',(∀w,bz P f? g w=.go g' w #[])/\Lv P n g')
def Lv.status{P n g}(h:Lv P n g):g.status=.running\/g.status=.finished:=by
 cases n with
 |zero=>exact .inr h|succ n=>exact h.elim .inr λx=>.inl x.1
def Lv.GO{P}:∀{n g},Lv P n g->QuitsD P n 0 g
 |0,_,h=>⟨h,q?⟩
 |_+1,_,.inl h=>.inl ⟨h,q?⟩|_+1,_,.inr ⟨h,g',O,U⟩=>.inr ⟨h,g',#[],i!,O,U.GO⟩
section
variable {P:P?}
def JR(a)(t)(cs)(O:w.1[c]?=y? (.chan cap buf f? s r tm)) :
  (invoke (.builtin .close a t cs) #[.chan (y? c)]).runT P w #[]=(.ok (.value (.tuple #[])) {w with heap:=w.1.setIfInBounds c (.chan cap buf t? s r tm)},#[⟨.obj c,f?,t?⟩,⟨.obj c,t?,t?⟩]):=by
 obtain⟨k,e,U⟩:∃k,invoke (.builtin .close a t cs) #[.chan (y? c)]=Sem.getObj c k/\k (.chan cap buf f? s r tm)=Sem.setObj c .. := ⟨_,q?,q?⟩;rw[e]
 have W:(Sem.getObj c k).runT P w #[]=(k (.chan cap buf f? s r tm)).runT P w (#[].push ⟨.obj c,f?,t?⟩):=by rw[gy];simp only[O];rfl
 rw[W,U];rw[gy];simp only[O];rfl
def closing{a:Array bI}{t}{cs:Array Bool}(hm:fr.mode=.returning)(U:fr.defers=[⟨.builtin .close a t cs,#[.chan (y? c)]⟩])(W:(P.funcs[fr.fn]?).any (·.norace)=f?)(Y:w.1[c]?=y? (.chan cap buf f? s r tm)) :
  bz P f? (G fr [ps]) w=.go (G {fr with defers:=[]} [ps]) {w with heap:=w.1.setIfInBounds c (.chan cap buf t? s r tm)} #[⟨.obj c,f?,t?⟩,⟨.obj c,t?,t?⟩]:=by
 have e:bz P f? (G fr [ps]) w=b7 P f? fr [ps] x? w:=by unfold bz;simp only[G,hm]
 rw[e];obtain⟨fn,tmps,todo,defers,mode,O,round⟩:=fr;subst hm U;unfold b7;dsimp only;unfold callDeferred;rw[JR a t cs Y];simp[bL,W,fb,G]
def Dd{fn}(hm:fr.mode=.returning)(hd:fr.defers=[])(hk:fr.kind=.deferred)(hf:P.funcs[fr.fn]?=y? fn)(hr:fn.results=#[])(O:ps.mode=.panicking [b8])(W:ps.defers=[])(aa:P.funcs[ps.fn]?=x?)(Y:ps.todo=[]):Lv P 2 (G fr [ps]):=by
 refine .inr ⟨q?,G ps [],λw=>?_,.inr ⟨q?,{frame:=ps,callers:=[],status:=.finished,dying:=x?},λw=>?_,q?⟩⟩;have e:bz P f? (G fr [ps]) w=b7 P f? fr [ps] x? w:=by unfold bz;simp only[G,hm]
 rw[e]
 have U:(bK fn fr.tmps).runT P w #[]=(.ok (.tuple #[]) w,#[]):=by rw[Sem.runT_eq,results_none hr _ P w,events_results_none hr ..]
 unfold b7;simp only[hd,hm,hf,U];unfold bG;simp only[hk,O,b8];simp[bL,fb,G];have e:bz P f? (G ps []) w=b7 P f? ps [] x? w:=by unfold bz;simp only[G,O]
 rw[e];unfold b7;simp[W,O,gd,Y,b8]
end
section
variable {P:P?} {m:Ren} {T:List Frame} {gl:Nat->Prop} {st:Bool} {Stop:LS->Prop}
def xZ.Uy{S fr' cs' w'}(hs:xZ P gl st m T S fr' cs' w'){rd r c}(h1:S.cs=[door P])(h2:S.fr.mode=.returning)(h3:S.fr.defers=[⟨.collected rd,#[.chan (y? r)]⟩])(hd:m.dead rd)(hr:m.ch r=y? c) :
  fr'.mode=.returning/\cs'=T/\(∃a t cs,fr'.defers=[⟨.builtin .close a t cs,#[.chan (y? c)]⟩])/\Em fr'.kind T/\fr'.fn=S.fr.fn:=by
 have hS:=hs.stack;have hF:=hS.rM;have O:=hF.mode;have U:=hF.defers;rw[h2]at O;rw[h3]at U;rw[h1]at hS;obtain⟨fn,tm,td,df,md,kd,ac⟩:=fr'
 have W:cs'=T/\Em kd T:=by
  cases hS with
  |one _ _ hb _=>exact⟨q?,hb⟩|cons _ _ _ h=>cases h
 cases O;refine⟨q?,W.1,?_,W.2,hF.fn⟩
 cases U with
 |@cons _ d' _ l' hx Y=>
  cases Y;obtain⟨ad,ab⟩:=d';have ht:=hx.target;have ha:=hx.args
  have aa:ab=#[.chan (y? c)]:=by
   obtain⟨al⟩:=ab
   cases ha with
   |cons hv hn=>
    cases hn
    cases hv with
    |chan hb=>rw[hr]at hb;cases hb;rfl
  subst aa
  cases ht with
  |collected hb=>rw[(hs.world.dead rd hd).1]at hb;cases hb
  |mark a t cs _=>exact⟨a,t,cs,q?⟩
end
section
variable {P:P?} {gs:Array Goroutine} {w w₁:w?} {sl:Option (Nat×Nat)} {i:Nat} {g tU:Goroutine} {es:Array Event} {cases:Array CommCase} {shape:CommShape} {blocking:Bool}
def Mr(n)(O:0<n)(w):∃a d,a<n/\(choose (.select n)).run P w=.ok a (w.at d):=by by_cases U:n<=1;exact⟨0,w.drawn,O,by simp[choose,gv,gm,U,World.at]⟩;refine⟨(Question.select n).cut (w.tape w.drawn (.select n)),w.drawn+1,?_,by simp[choose,gv,gm,U,World.at]⟩;exact Nat.mod_lt _ O
def kH(w:w?)(gs:Array Goroutine)(cases:Array CommCase):List (Nat×CommCase×List Way):=(cases.zipIdx.toList.map λ(c,k)=>(k,c,ways w gs c)).filter λ(_,_,O)=>!O.isEmpty
def mem_ready{gs x}(h:x∈kH w₁ gs cases):cases[x.1]?=y? x.2.1/\x.2.2=ways w₁ gs x.2.1/\x.2.2≠[]:=by unfold kH at h;rw[cP,cM]at h;obtain⟨⟨⟨cc,k⟩,hm,rfl⟩,W⟩:=h;obtain⟨j,U⟩:=cN.1 hm;simp at U;obtain⟨_,O,rfl,rfl⟩:=U;refine⟨O,q?,λe=>?_⟩;have e:ways w₁ gs _=[]:=e;simp[e]at W
def Pc{gs}{k:Nat}{cc}(O:cases[k]?=y? cc)(U:ways w₁ gs cc≠[]):kH w₁ gs cases≠[]:=by
 have:(k,cc,ways w₁ gs cc)∈kH w₁ gs cases:=by
  unfold kH;rw[cP,cM];refine⟨⟨(cc,k),?_,q?⟩,?_⟩;refine cN.2 ⟨k,?_⟩;simp[O]
  cases e:ways w₁ gs cc with
  |nil=>exact absurd e U|cons a l=>rfl
 intro e;rw[e]at this;cases this
def BC(hi:gs[i]?=y? g)(h:bz P (i==0) g w=.comm tU cases blocking shape w₁ es)(aa:∀cc∈cases,c7 w₁ cc=f?)
  (ab:∀(k:Nat)cc,cases[k]?=y? cc->ways w₁ (gs.setIfInBounds i ph) cc=[]\/(∃c z cap buf s r tm,cc=bV c z/\w₁.1[c]?=y? (.chan cap buf t? s r tm)/\ways w₁ (gs.setIfInBounds i ph) cc=[.closed])\/(∃c z cap buf cl s r tm j q,cc=bV c z/\w₁.1[c]?=y? (.chan cap buf cl s r tm)/\ways w₁ (gs.setIfInBounds i ph) cc=[.partner j q]))
  (af:∃(k:Nat)(cc:CommCase),cases[k]?=y? cc/\ways w₁ (gs.setIfInBounds i ph) cc≠[]) :
  (∃(k:Nat)(c:Nat)(z:v?)(d:Nat),cases[k]?=y? (bV c z)/\ways w₁ (gs.setIfInBounds i ph) (bV c z)=[.closed]/\bO P (bW gs w sl) i=(.next (bW (gs.setIfInBounds i (tU.finishComm P cases shape k z f?)) (w₁.at d) sl),da i g.frame.fn g.frame.place es++#[{g:=i,fn:=tU.frame.fn,pos:=tU.frame.place,act:=.recvClosed c}]))\/
  (∃(k:Nat)(c:Nat)(z:v?)(d j q cap s r:Nat)(buf:Array v?)(cl tm:Bool),cases[k]?=y? (bV c z)/\w₁.1[c]?=y? (.chan cap buf cl s r tm)/\ways w₁ (gs.setIfInBounds i ph) (bV c z)=[.partner j q]/\
    bO P (bW gs w sl) i=(.next (bW ((finishPartner P (gs.setIfInBounds i ph) j q gz).setIfInBounds i (tU.finishComm P cases shape k (bM (gs.setIfInBounds i ph) j q) t?)) {w₁.at d with heap:=w₁.1.setIfInBounds c (.chan cap buf cl (s+1) (r+1) tm)} sl),
     da i g.frame.fn g.frame.place es++#[{g:=j,fn:=((gs.setIfInBounds i ph).getD j default).frame.fn,pos:=((gs.setIfInBounds i ph).getD j default).frame.place,act:=.send c s},{g:=i,fn:=tU.frame.fn,pos:=tU.frame.place,act:=.recv c r cap},{g:=j,fn:=((gs.setIfInBounds i ph).getD j default).frame.fn,pos:=((gs.setIfInBounds i ph).getD j default).frame.place,act:=.sendDone c s},{g:=i,fn:=tU.frame.fn,pos:=tU.frame.place,act:=.recvDone c r}])):=by
 obtain⟨k0,ak,ag,ah⟩:=af;have ac:=Pc ag ah
 have ad:0<(kH w₁ (gs.setIfInBounds i ph) cases).length:=by
  cases Y:kH w₁ (gs.setIfInBounds i ph) cases with
  |nil=>exact absurd Y ac|cons a l=>simp
 obtain⟨a,d,ha,ai⟩:=Mr (P:=P) _ ad w₁;obtain⟨x,Y⟩:∃x,(kH w₁ _ cases)[a]?=y? x:=⟨_,List.getElem?_eq_getElem ha⟩;have ae:=mem_ready (cN.2 ⟨a,Y⟩);obtain⟨k,cc,ws⟩:=x;obtain⟨h1,h2,h3⟩:=ae;have U:(kH w₁ (gs.setIfInBounds i ph) cases).getD a (0,default,[])=(k,cc,ws):=by simp[List.getD,Y]
 have W:(kH w₁ (gs.setIfInBounds i ph) cases).isEmpty=f?:=by
  cases Y:kH w₁ _ cases with
  |nil=>exact absurd Y ac|cons a l=>rfl
 rw[ct hi h];unfold b4;rw[if_neg (by rw[dB];exact any_ill aa)]
 have O:∀(f:Nat->Sem (Nat×CommCase×Way)),((choose (.select (kH w₁ (gs.setIfInBounds i ph) cases).length)).bind f).run P w₁=(f a).run P (w₁.at d):=by intro f;rw[Sem.run_bind',ai];rfl
 have aj:(w₁.at d).1=w₁.1:=rfl;obtain e|⟨c,z,cap,buf,s,r,tm,rfl,hc,e⟩|⟨c,z,cap,buf,cl,s,r,tm,j,q,rfl,hc,e⟩:=ab k cc h1
 rw[e]at h2;exact absurd h2 h3;rw[e]at h2;subst h2;refine .inl ⟨k,c,z,d,h1,e,?_⟩;have hf:((cases.zipIdx.toList.map λ(c,k)=>(k,c,ways w₁ (gs.setIfInBounds i ph) c)).filter _)=kH w₁ _ cases:=rfl;simp only[hf,W,dt,if_false,bind,O,U];simp[choose,gv,gm,bind,gx,pure,bV,bW];rw[e]at h2;subst h2;refine .inr ⟨k,c,z,d,j,q,cap,s,r,buf,cl,tm,h1,hc,e,?_⟩;have hf:((cases.zipIdx.toList.map λ(c,k)=>(k,c,ways w₁ (gs.setIfInBounds i ph) c)).filter _)=kH w₁ _ cases:=rfl;simp only[hf,W,dt,if_false,bind,O,U];simp[choose,gv,gm,bind,gx,pure,bV,bW,aj,hc]
end
variable {r z:MemOp} {i p pc pr:Nat}
def mc(t:b6):Prop:=∀op∈t,op.act≠.mark .disable/\op.act≠.mark .enable
section
variable {t u:b6}
def mc.append(U:mc t)(W:mc u):mc (t++u):=λop O=>(Array.mem_append.1 O).elim (U op) (W op)
def mc.deaf(h:mc t)(g):∀i,t.deaf g i=0:=by
 intro i;induction i with
 |zero=>rfl|succ i U=>unfold b6.deaf;split;rename_i O;exact absurd q? (h _ (cu O)).1;rename_i O;exact absurd q? (h _ (cu O)).2;exact U
def mc.heard(h:mc t){op}(O:t[i]?=y? op):t.heard i:=⟨op.g,by simp[gt,O],h.deaf ..⟩
def LQ(W:mc t){c}(Y:t[pc]?=y? z)(O:z.act=.close c)(hr:t[pr]?=y? r)(U:r.act=.recvClosed c):bP t pc pr:=
 .single (.inr ⟨.closed (c:=c) (by simp[gn,Y,O]) (by simp[gn,hr,U]),W.heard Y,W.heard hr⟩)
def N'(Y:mc t){c:Nat}(hz:t[pc]?=y? z)(O:z.act=.close c)(W:t[pr]?=y? r)(U:r.act=.recvClosed c)(hp:Before t p pc):ck t r.g p:=
 ⟨pr,r,W,q?,.inr (hp.hb (LQ Y hz O W U))⟩
def I'(Y:mc t){c}(W:t[pc]?=y? z)(O:z.act=.close c)(hr:t[pr]?=y? r)(U:r.act=.recvClosed c){y}(hy:t[p]?=y? y)(hg:y.g=z.g)(hp:p<=pc):ck t r.g p:=by
 refine N' Y W O hr U ?_;obtain h|h:=Nat.lt_or_eq_of_le hp
 exact .inr (hb_po h hy W hg);exact .inl h
def E5{n a b}(hw:mc (t++#[a,b]))(ha:a.g=i)(U:a.act=.go n)(hb:b.g=n)(W:b.act=.start)(hp:ck t i p):ck (t++#[a,b]) n p:=by have Y:(t++#[a,b])[t.size]?=y? a:=i!;have O:(t++#[a,b])[t.size+1]?=y? b:=i!;have e1:=hp.hb_new (cW _) Y ha;have e2:bP .. := .single (.inr ⟨.spawn (child:=n) (by simp[gn,Y,U]) (by simp[gn,O,W]) (by simp[gt,O,hb]),hw.heard Y,hw.heard O⟩);exact⟨t.size+1,b,O,hb,.inr (e1.trans e2)⟩
def oG.mute{g m}(h:oG t g m)(Y:∀op∈u,op.act.touch?=x?):oG (t++u) g m:=by
 intro p x q r hx hq hr O;obtain⟨_,U⟩|⟨op,U,_,W⟩:=eI hx
 exact(h p x q r U hq hr O).app u;rw[Y op U]at W;cases W
end
def na(t:b6)(A:Nat->Prop):Prop:=∀p a,bX t p=y? a->a.loc.isMemory=t?->ck t 0 p\/∃op,t[p]?=y? op/\A op.g
section
variable {t u:b6} {A A':Nat->Prop}
def na.mono(h:na t A)(O:∀i,A i->A' i):na t A':=λp a U hm=>(h p a U hm).imp id λ⟨op,W,Y⟩=>⟨op,W,O _ Y⟩
def na.app(h:na t A)(Y:∀op∈u,op.act.touch?=x?\/op.g=0\/A op.g):na (t++u) A:=by
 intro p a ha hm;obtain⟨hp,O⟩|⟨op,O,U,W⟩:=eI ha
 obtain x|⟨op,x,y⟩:=h p a O hm
 exact .inl (x.app u);exact .inr ⟨op,by rw[cd hp];exact x,y⟩;obtain x|x|x:=Y op O
 rw[x]at W;cases W;have:=cq U;rw[x]at this;exact .inl this;exact .inr ⟨op,U,x⟩
def na.join(h:na t A)(hw:mc t){j pc pr c:Nat}{z r}(hz:t[pc]?=y? z)(U:z.g=j)(W:z.act=.close c)(hr:t[pr]?=y? r)(Y:r.g=0)(aa:r.act=.recvClosed c)(O:∀p a op,bX t p=y? a->t[p]?=y? op->op.g=j->p<=pc):na t λi=>A i/\i≠j:=by
 intro p a ha hm;obtain x|⟨op,x,y⟩:=h p a ha hm
 exact .inl x;by_cases e:op.g=j;have:=I' hw hz W hr aa x (e.trans U.symm) (O p a op ha x e);rw[Y]at this;exact .inl this;exact .inr ⟨op,x,y,e⟩
def na.over(h:na t λ_=>False):t.HandedOver:=by
 intro i g hg O hc;obtain⟨x,hx,hm,_⟩:=hc;obtain⟨q,z,W,Y,U⟩|⟨_,_,h⟩:=h i x hx hm
 refine⟨q,by simp[gt,W,Y],?_⟩;obtain rfl|U:=U
 exact absurd (by simpa[gt,W,Y]using hg.symm) O;exact U;exact h.elim
def Qo{m e}(h:qd m e):ey e≠.mark .disable/\ey e≠.mark .enable:=by
 obtain⟨loc,wr,O⟩:=e
 cases loc with
 |mark x=>have U:=h;cases x<;>first|exact U.elim|simp[ey]
 |_=>cases wr<;>cases O<;>simp[ey]
def CC(h:mc t){m g fn pos es}(W:∀e∈es,qd m e):mc (t++da g fn pos es):=by refine h.append λop O=>?_;obtain⟨e,U,rfl⟩:=bR O;exact Qo (W e U)
end
end
section
open Go.Conc
structure qK where
 gl:Nat->Prop
 T:List Frame
 Stop:LS->Prop
 r:Nat
 c:Nat
 rd:Nat
 L:List v?
 nF:Nat->Nat->Obj->Prop
structure qK.Ok(P:P?)(J:qK):Prop where
 blind:As J.Stop
 holds:∀S,J.Stop S->Holds S J.r J.L
 Vq:∀S,J.Stop S->S.cs=[door P]/\S.fr.mode=.returning/\S.fr.defers=[⟨.collected J.rd,#[.chan (some J.r)]⟩]/\∃fn,P.funcs[S.fr.fn]?=some fn/\fn.results=#[]/\fn.norace=false
 back:∀S,J.Stop S->∀r b o,J.nF r b o->S.w.1[r]?=some o/\∀(m:Go.Proofs.YtocbogeoffeolaaGreatDoor.Ren)o',OR m o o'->o'=o
 W5:∃ps,J.T=[ps]/\ps.mode=.panicking [b8]/\ps.defers=[]/\P.funcs[ps.fn]?=none/\ps.todo=[]
structure qK.Ren(J:qK)(m:Go.Proofs.YtocbogeoffeolaaGreatDoor.Ren):Prop where
 ch:m.ch J.r=some J.c
 only:∀r r',m.ch r=some r'->r=J.r
 dead:m.dead J.rd
 nF:∀r b o,J.nF r b o->m.blk r=some b
def qK.Ren.le{J:qK}{m dA}(h:J.Ren m)(O:m.Le dA)(U:dA.ch=m.ch):J.Ren dA:=⟨by rw[U];exact h.ch,λr r' x=>by rw[U]at x;exact h.only r r' x,by rw[O.dead];exact h.dead,λr b o x=>O.blk r b (h.nF r b o x)⟩
structure qK.Act(P:P?)(J:qK)(m:Go.Proofs.YtocbogeoffeolaaGreatDoor.Ren)(S:LS)(n:Nat)(g:Goroutine)(w:w?):Prop where
 oc:J.Ren m
 pq:mI P J.Stop S
 tM:∃fr' cs',g=G fr' cs'/\xZ P J.gl false m J.T S fr' cs' w
 ix:∃l,Holds S J.r l/\l? l=n
structure qK.MN(P:P?)(J:qK)(m:Go.Proofs.YtocbogeoffeolaaGreatDoor.Ren)(S:LS)(n:Nat)(v':v?)(g:Goroutine)(w:w?):Prop where
 oc:J.Ren m
 pq:mI P J.Stop S
 tM:∃v fr' cs',g=G fr' cs'/\rl P J.gl false m J.T S J.r J.c v v' fr' cs' w
 ix:∃l,Holds S J.r l/\l? l=n+1
section
variable {P:P?} {J:qK} {m:Go.Proofs.YtocbogeoffeolaaGreatDoor.Ren} {S:LS} {n:Nat} {g:Goroutine} {w:w?}
def qK.MN.value(W:J.Ok P){v'}(h:J.MN P m S n v' g w):∃v,J.L[n]?=y? v/\VR m v v':=by
 obtain⟨v,fr',cs',_,U⟩:=h.tM;obtain⟨l,Y,hn⟩:=h.ix;obtain⟨l0,h1,h2⟩:=U.next h.pq W.holds;have e:=Y.one h1;subst e;have O:=by simpa using hn
 refine⟨v,?_,U.val⟩;obtain⟨tl,e⟩:=h2;rw[<-e,<-O];simp
def qK.MN.done{v'}(h:J.MN P m S n v' g w):∃dA,m.Le dA/\dA.blk=m.blk/\dA.loose=m.loose/\J.Act P dA S (n+1) (bU g gz) w:=by obtain⟨v,fr',cs',rfl,O⟩:=h.tM;obtain⟨o,U⟩:=O.done;exact⟨m.put _ o,Ren.pY ..,q?,q?,h.oc.le (Ren.pY ..) q?,h.pq,⟨_,_,q?,U⟩,h.ix⟩
def qK.Act.stands(U:J.Ok P)(h:J.Act P m S n g w)(O:J.Stop S):n=l? J.L/\∃fr ps a t cs,g=G fr [ps]/\fr.mode=.returning/\fr.defers=[⟨.builtin .close a t cs,#[.chan (y? J.c)]⟩]/\(P.funcs[fr.fn]?).any (·.norace)=f?/\Lv P 2 (G {fr with defers:=[]} [ps]):=by
 obtain⟨fr',cs',rfl,hs⟩:=h.tM;obtain⟨l,hl,rfl⟩:=h.ix;obtain⟨f1,f2,f3,fn,f4,f5,f6⟩:=U.Vq S O;obtain⟨ps,hT,W,p2,p3,p4⟩:=U.W5;obtain⟨Y,g2,⟨a,t,cs,g3⟩,g4,g5⟩:=hs.Uy f1 f2 f3 h.oc.dead h.oc.ch;refine⟨by rw[hl.one (U.holds S O)],fr',ps,a,t,cs,by rw[g2,hT],Y,g3,by rw[g5,f4];simp[f6],?_⟩
 have hk:fr'.kind=.deferred:=by
  obtain⟨_,h⟩|⟨h,_⟩:=g4
  exact absurd W (h ps hT);exact h
 exact Dd (fn:=fn) Y q? hk (by rw[g5];exact f4) f5 W p2 p3 p4
end
inductive qK.Next(P:P?)(J:qK)(m:Go.Proofs.YtocbogeoffeolaaGreatDoor.Ren)(S:LS)(n:Nat)(w:w?):GStep->Prop
 |go {S' dA g₁ w₁ es}:oF P J.Stop S' S->m.Le dA->J.Act P dA S' n g₁ w₁->gw m dA w w₁->(∀e∈es,qd dA e)->qK.Next P J m S n w (.go g₁ w₁ es)|send {S' dA g₁ w₁ es v' z'}:oF P J.Stop S' S->m.Le dA->J.MN P dA S' n v' g₁ w₁->gw m dA w w₁->(∀e∈es,qd dA e)->qK.Next P J m S n w (.comm g₁ #[ca J.c v' z'] true .send w₁ es)
section
variable {P:P?} {J:qK} {m:Go.Proofs.YtocbogeoffeolaaGreatDoor.Ren} {S:LS} {n:Nat} {g:Goroutine} {w:w?}
def MP{T gl st Stop S S' fr' cs' w'}(U:As Stop)(O:xZ P gl st m T S fr' cs' w')(W:mI P Stop S)(Y:oF P Stop S' S){r r' l}(hr:m.ch r=y? r')(hl:Holds S r l):Holds S' r l\/∃v,Holds S' r (l++[v]):=by obtain⟨hn,τ,hb,ho⟩:=Y;have hf:=(W.step U ⟨_,_,_,_,_,_,_,O⟩ hn τ hb).1;obtain⟨_,_,_,_,_,_,h⟩:=(O.on τ).Vb (λx=>hf ⟨x.1,x.2⟩) ho;exact h r r' l hr hl
def qK.Act.Ce(hJ:J.Ok P)(h:J.Act P m S n g w)(hn:¬J.Stop S):qK.Next P J m S n w (bz P f? g w):=by
 obtain⟨fr',cs',rfl,W⟩:=h.tM;obtain⟨l,hl,ad⟩:=h.ix;have hd:=W.V' hJ.blind h.pq hn f?;generalize bz P f? _ w=s at hd
 cases hd with
 |@go S' dA Y aa w₁ es hg U ae hk he=>have hh:=(h.pq.own hJ.blind ⟨_,_,_,_,_,_,_,W⟩ hg).2;refine .go hg U ⟨h.oc.le U (hk.nT W.jf),hh,⟨_,_,q?,ae⟩,l,?_,ad⟩ hk he;obtain⟨cap,buf,ix,O,tm,hx⟩:=W.op _ _ h.oc.ch;have a:=(W.world.lS _ _ hx).1;have b:=(ae.world.lS _ _ (by rw[hk.lS];exact hx)).1;have e:=hl.one ⟨cap,buf,ix,O,tm,a,q?⟩;exact⟨cap,buf,ix,O,tm,b,e.symm⟩
 |@send S' dA Y aa w₁ es r r' v v' z' hg U hp hk he=>
  have hh:=(h.pq.own hJ.blind ⟨_,_,_,_,_,_,_,W⟩ hg).2;have af:=hk.nT W.jf;have hr:m.ch r=y? r':=by rw[<-af];exact hp.ch
  have er:=h.oc.only r r' hr;subst er;have ai:r'=J.c:=by rw[h.oc.ch]at hr;cases hr;rfl
  subst ai;refine .send hg U ⟨h.oc.le U af,hh,⟨v,_,_,q?,hp⟩,?_⟩ hk he;obtain⟨l0,h1,_⟩:=hp.next hh hJ.holds;refine⟨l0++[v],h1,?_⟩;obtain x|⟨u,x⟩:=MP hJ.blind W h.pq hg h.oc.ch hl
  obtain⟨f0,wl,cap,buf,ix,O,tm,e1,_,aj,hc,_⟩:=hp.tM;obtain⟨ag,ah,ab,ac,ak,hx⟩:=W.op _ _ h.oc.ch;have a:=(W.world.lS _ _ hx).1;have b:=(aj.lS _ _ (by rw[hk.lS];exact hx)).1;have e:=hl.one ⟨ag,ah,ab,ac,ak,a,q?⟩;rw[hc]at b;cases b
  have hS:Holds S' J.r (buf.toList++[v]):=by rw[e1];refine⟨cap,buf.push v,ix+1,O,tm,?_,i!⟩;simp[lh hc]
  have:=hS.one x;rw[e]at this;simp at this;have:=h1.one x;simp[this,ad]
end
variable {J:qK} {gu Pd:Nat->Prop} {m:Ren}
def sQ(P:P?)(J:qK)(m:Ren)(S:LS):Nat->Goroutine->Prop
 |0,g=>g.status=.running/\∀w,WR m S.w w->∃fr' cs' d es,bz P f? g w=.go (G fr' cs') (w.at d) es/\(∀e∈es,qd m e)/\xZ P J.gl f? m J.T S fr' cs' (w.at d)|k+1,g=>g.status=.running/\∀w,WR m S.w w->∃g' d es,bz P f? g w=.go g' (w.at d) es/\(∀e∈es,qd m e)/\sQ P J m S k g'
inductive eY
 |quit (q:Nat)|ended (heard:Bool) (J:qK) (m:Ren) (S:LS) (q:Nat)|act (J:qK) (m:Ren) (S:LS) (n:Nat)|kD (J:qK) (m:Ren) (S:LS) (n:Nat) (v:v?)|start (J:qK) (m:Ren) (S:LS) (k:Nat)
def eY.oc:eY->Option Ren
 |.quit _=>x?|.ended _ _ m _ _|.act _ m _ _|.kD _ m _ _ _|.start _ m _ _=>y? m
def eY.live:eY->Option Ren
 |.quit _|.ended .. => x?|.act _ m _ _|.kD _ m _ _ _|.start _ m _ _=>y? m
def eY.tI:eY->Option qK
 |.quit _=>x?|.ended _ J _ _ _|.act J _ _ _|.kD J _ _ _ _|.start J _ _ _=>y? J
def eY.chan:eY->Option qK
 |.quit _|.ended .. => x?|.act J _ _ _|.kD J _ _ _ _|.start J _ _ _=>y? J
def eY.sum:eY->Option (qK×Nat)
 |.quit _|.ended t? .. => x?|.ended f? J _ _ _=>y? (J,l? J.L)|.act J _ _ n|.kD J _ _ n _=>y? (J,n)|.start J _ _ _=>y? (J,0)
def gY(w:w?)(c:Nat)(cl:Bool):Prop:=∃s r,w.1[c]?=y? (.chan 0 #[] cl s r f?)
def At(P:P?)(w:w?)(t:b6)(i:Nat)(g:Goroutine):eY->Prop
 |.quit q=>Lv P q g|.ended _ J m S q=>Lv P q g/\J.Ren m/\(J.Stop S/\J.Ok P)/\WR m S.w w/\gY w J.c t?/\∃pc z,t[pc]?=y? z/\z.g=i/\z.act=.close J.c/\∀p a op,bX t p=y? a->t[p]?=y? op->op.g=i->p<=pc|.act J m S n=>J.Ok P/\gY w J.c f?/\J.Act P m S n g w|.kD J m S n v=>J.Ok P/\gY w J.c f?/\∃O z,g=parked O #[ca J.c v z] .send/\J.MN P m S n v O w|.start J m S k=>J.Ok P/\gY w J.c f?/\J.Ren m/\mI P J.Stop S/\Holds S J.r []/\WR m S.w w/\sQ P J m S k g
section
variable {P:P?} {w w₁:w?} {t u:b6} {i:Nat} {g:Goroutine} {ρ:eY}
def WR.at{wl}(h:WR m wl w)(d):WR m wl (w.at d):=h.rely (λ_ _ _=>rfl) (cW _) rfl
def sQ.status{S k}(h:sQ P J m S k g):g.status=.running:=by cases k<;>exact h.1
def At.status(h:At P w t i g ρ):g.status=.running\/g.status=.blocked\/g.status=.finished:=by
 cases ρ with
 |quit q=>exact h.status.elim .inl λx=>.inr (.inr x)|ended O J m S q=>exact h.1.status.elim .inl λx=>.inr (.inr x)|act J m S n=>obtain⟨_,_,h⟩:=h;obtain⟨fr,cs,rfl,_⟩:=h.tM;exact .inl rfl
 |kD J m S n v=>obtain⟨_,_,U,z,rfl,_⟩:=h;exact .inr (.inl q?)
 |start J m S k=>exact .inl h.2.2.2.2.2.2.status
def At.wr(h:At P w t i g ρ)(hm:ρ.oc=y? m):∃wl,WR m wl w:=by
 cases ρ with
 |quit q=>cases hm
 |ended Y J m S q=>cases hm;exact⟨_,h.2.2.2.1⟩
 |act J m S n=>cases hm;obtain⟨_,_,h⟩:=h;obtain⟨fr,cs,rfl,O⟩:=h.tM;exact⟨_,O.world⟩
 |kD J m S n v=>cases hm;obtain⟨_,_,g0,z,rfl,U⟩:=h;obtain⟨_,_,_,_,O⟩:=U.tM;obtain⟨_,wl,_,_,_,_,_,_,_,W,_⟩:=O.tM;exact⟨wl,W⟩
 |start J m S k=>cases hm;exact⟨_,h.2.2.2.2.2.1⟩
def At.Wc(h:At P w t i g ρ)(hm:ρ.oc=y? m)(O:ρ.tI=y? J):J.Ren m:=by
 cases ρ with
 |quit q=>cases hm
 |ended W J m S q=>cases hm;cases O;exact h.2.1
 |act J m S n=>cases hm;cases O;exact h.2.2.oc
 |kD J m S n v=>cases hm;cases O;obtain⟨_,_,Y,z,rfl,U⟩:=h;exact U.oc
 |start J m S k=>cases hm;cases O;exact h.2.2.1
def At.is(h:At P w t i g ρ)(O:ρ.tI=y? J):∃cl,gY w J.c cl:=by
 cases ρ with
 |quit q=>cases O
 |ended U J m S q=>cases O;exact⟨_,h.2.2.2.2.1⟩
 |act J m S n=>cases O;exact⟨_,h.2.1⟩
 |kD J m S n v=>cases O;exact⟨_,h.2.1⟩
 |start J m S k=>cases O;exact⟨_,h.2.1⟩
def At.rely(h:At P w t i g ρ)(hk:∀m,ρ.oc=y? m->∀r b,m.blk r=y? b->w₁.1[b]?=w.1[b]?)(hc:∀J,ρ.tI=y? J->w₁.1[J.c]?=w.1[J.c]?)(hs:w.1.size<=w₁.1.size)(ho:w₁.os=w.os)(hu:∀op∈u,op.g=i->op.act.touch?=x?):At P w₁ (t++u) i g ρ:=by
 have W:∀J cl,ρ.tI=y? J->gY w J.c cl->gY w₁ J.c cl:=by rintro J cl hJ ⟨s,r,h⟩;exact⟨s,r,by rw[hc J hJ];exact h⟩
 cases ρ with
 |quit q=>exact h|ended hd J m S q=>
  obtain⟨Y,h2,O,h4,h5,pc,z,h6,h7,h8,h9⟩:=h;refine⟨Y,h2,O,h4.rely (hk m q?) hs ho,W J _ q? h5,pc,z,by rw[cd (cm h6)];exact h6,h7,h8,λp a op ha aa hg=>?_⟩;obtain⟨hp,Y⟩|⟨ab,x1,x2,x3⟩:=eI ha
  exact h9 p a op Y (by rw[<-cd hp];exact aa) hg;rw[x2]at aa;cases aa;rw[hu _ x1 hg]at x3;cases x3
 |act J m S n=>obtain⟨Y,h2,O⟩:=h;obtain⟨fr,cs,rfl,U⟩:=O.tM;exact⟨Y,W J _ q? h2,O.oc,O.pq,⟨fr,cs,q?,U.rely (hk m q?) hs ho⟩,O.ix⟩
 |kD J m S n v=>obtain⟨Y,h2,g0,z,rfl,O⟩:=h;obtain⟨v0,fr,cs,e,U⟩:=O.tM;exact⟨Y,W J _ q? h2,g0,z,q?,O.oc,O.pq,⟨v0,fr,cs,e,U.rely (hk m q?) hs ho⟩,O.ix⟩
 |start J m S k=>obtain⟨Y,h2,O,h4,h5,h6,h7⟩:=h;exact⟨Y,W J _ q? h2,O,h4,h5,h6.rely (hk m q?) hs ho,h7⟩
def At.woken(h:At P w t i g ρ)(a a'):c9 P a a' w g=g:=by
 cases ρ with
 |quit q=>exact cw h.GO|ended U J m S q=>exact cw h.1.GO|act J m S n=>obtain⟨_,_,h⟩:=h;obtain⟨fr,cs,rfl,_⟩:=h.tM;exact woken_run rfl
 |kD J m S n v=>obtain⟨_,⟨s,r,O⟩,W,z,rfl,_⟩:=h;exact woken_send_open a a' O
 |start J m S k=>exact woken_run h.2.2.2.2.2.2.status
end
def Kn(gu:Nat->Prop)(ρ:Nat->eY)(t:b6):Prop:=∀p a b,bX t p=y? a->mC a.loc=y? b->gu b->ck t 0 p\/∃i m' r,(ρ i).oc=y? m'/\m'.blk r=y? b
def Kn.app{ρ ρ':Nat->eY}{t u:b6}(h:Kn gu ρ t)(Y:∀i m' r b,(ρ i).oc=y? m'->m'.blk r=y? b->∃i' O r',(ρ' i').oc=y? O/\O.blk r'=y? b)(hu:∀op∈u,∀a b,op.act.touch?=y? a->mC a.loc=y? b->gu b->op.g=0\/∃i m' r,(ρ' i).oc=y? m'/\m'.blk r=y? b):Kn gu ρ' (t++u):=by
 intro p a b ha hb W;obtain⟨_,U⟩|⟨op,U,h2,h3⟩:=eI ha
 obtain x|⟨i,m',r,x,y⟩:=h p a b U hb W
 exact .inl (x.app u);exact .inr (Y i m' r b x y);obtain x|x:=hu op U a b h3 hb W
 have:=cq h2;rw[x]at this;exact .inl this;exact .inr x
def Kn.same{ρ ρ':Nat->eY}{t}(h:Kn gu ρ t)(O:∀j,(ρ' j).oc=(ρ j).oc):Kn gu ρ' t:=λp a b U hb W=>(h p a b U hb W).imp id λ⟨i,m',r,x,y⟩=>⟨i,m',r,by rw[O];exact x,y⟩
def U4(Pd gu:Nat->Prop)(ρ:Nat->eY)(w:w?)(t:b6):Prop:=∀c,Pd c->gY w c f?/\(∀p a,bX t p=y? a->mC a.loc≠y? c)/\(∀i J,(ρ i).tI=y? J->J.c≠c)/\¬gu c
def U4.app{ρ ρ':Nat->eY}{w w₁:w?}{t u:b6}(h:U4 Pd gu ρ w t)(W:∀j,(ρ' j).tI=(ρ j).tI)(Y:∀c,Pd c->gY w c f?->w₁.1[c]?=w.1[c]?)(hu:∀op∈u,∀a c,op.act.touch?=y? a->Pd c->gY w c f?->mC a.loc≠y? c):U4 Pd gu ρ' w₁ (t++u):=by
 intro c O;obtain⟨⟨s,r,U⟩,h2,h3,h4⟩:=h c O;refine⟨⟨s,r,by rw[Y c O ⟨s,r,U⟩];exact U⟩,λp a ha=>?_,λi J hJ=>h3 i J (by rw[<-W];exact hJ),h4⟩;obtain⟨_,x⟩|⟨op,x,_,y⟩:=eI ha
 exact h2 p a x;exact hu op x a c y O ⟨s,r,U⟩
def U4.same{ρ ρ':Nat->eY}{w w₁ t}(h:U4 Pd gu ρ w t)(O:∀j,(ρ' j).tI=(ρ j).tI)(U:w₁.1=w.1):U4 Pd gu ρ' w₁ t:=by have:=h.app (u:=#[]) (w₁:=w₁) O (λc _ _=>by rw[U]) i!;simpa using this
def qq:Obj:=.deferred x?
def VL(gu:Nat->Prop)(w0:w?)(ρ:Nat->eY):Prop:=∀b,b<w0.1.size->gu b\/(∃i J r o,(ρ i).tI=y? J/\J.nF r b o/\w0.1[b]?=y? o)\/w0.1[b]?=y? qq
def VL.same{w0}{ρ ρ':Nat->eY}(h:VL gu w0 ρ)(O:∀j,(ρ' j).tI=(ρ j).tI):VL gu w0 ρ':=λb hb=>(h b hb).imp id λz=>z.imp (λ⟨i,J,r,o,x,y⟩=>⟨i,J,r,o,by rw[O];exact x,y⟩) id
structure Co(P:P?)(gu:Nat->Prop)(w0:w?)(Pd:Nat->Prop)(ρ:Nat->eY)(m:Ren)(wl:w?)(gs:Array Goroutine)(w:w?)(t:b6):Prop where
 main:WR m wl w
 at_:∀i g,0<i->gs[i]?=some g->At P w t i g (ρ i)
 out:∀i,i=0\/gs.size<=i->ρ i=.quit 0
 d0:∀i m',(ρ i).oc=some m'->pB m m'
 dd:∀i j m1 m2,i≠j->(ρ i).oc=some m1->(ρ j).oc=some m2->pB m1 m2
 cc:∀i j J1 J2,i≠j->(ρ i).tI=some J1->(ρ j).tI=some J2->J1.c≠J2.c
 s0:oG t 0 m
 ss:∀i m',(ρ i).live=some m'->oG t i m'
 Ny:∀i J,(ρ i).chan=some J->∀p a,bX t p=some a->mC a.loc≠some J.c
 low:Pg t w.1.size
 hears:mc t
 lF:na t λi=>(ρ i).sum≠none
 clean:∀said,¬bQ said t
 fix:∀b,gu b->b<w.1.size/\w.1[b]?=w0.1[b]?
 f0:∀r b,m.blk r=some b->gu b->m.loose r
 ff:∀i m',(ρ i).oc=some m'->∀r b,m'.blk r=some b->gu b->m'.loose r
 cx:∀i J,(ρ i).tI=some J->¬gu J.c
 sz:w0.1.size<=w.1.size
 os:w.os=w0.os/\w.output=w0.output
 kn:Kn gu ρ t
 pd:U4 Pd gu ρ w t
 len:VL gu w0 ρ
end
section
open Go.Conc
open Go.ConcN (upd upd_same upd_ne)
variable {es:Array Event} {fn:bD} {g':Goroutine} {J:qK} {c:Nat} {dA:Ren} {ρ':eY} {pos:String}
def gw.at(m)(w)(d):gw m m w (w.at d):=⟨λ_ _ _=>rfl,cW _,λr' h O=>absurd O (by show ¬r'<w.1.size;omega),λ_ _ h=>.inl h,λ_ _ h=>.inl h,q?,q?,q?,λ_=>rfl,q?,λ_ _ _ _=>rfl⟩
def eY.pb{ρ:eY}{m}(h:ρ.live=y? m):ρ.oc=y? m:=by cases ρ<;>first|cases h;rfl|cases h
def eY.vf{ρ:eY}(h:ρ.chan=y? J):ρ.tI=y? J:=by cases ρ<;>first|cases h;rfl|cases h
def eY.PH{ρ:eY}{m}(h:ρ.live=y? m):ρ.sum≠x?:=by cases ρ<;>first|(simp[eY.sum];done)|cases h
def WR.z8{m wl w}(h:WR m wl w){cl}(O:gY w c cl){r}:m.blk r≠y? c:=by intro W;obtain⟨s,y,O⟩:=O;obtain⟨o,o',_,U,Y⟩:=h.obj r c W;rw[O]at U;cases U;cases Y
def gw.Q7{m w w₁ wl}(U:gw m dA w w₁)(W:WR m wl w){cl}(O:gY w c cl):w₁.1[c]?=w.1[c]?:=by obtain⟨s,y,O⟩:=O;rw[O];exact U.chan W O
def ofEvents_g{g op}(h:op∈da g fn pos es):op.g=g:=by obtain⟨e,_,rfl⟩:=bR h;rfl
section
variable {P:P?} {gu:Nat->Prop} {w0:w?} {Pd:Nat->Prop} {ρ:Nat->eY} {m:Ren} {wl:w?} {gs gs':Array Goroutine} {w w₁:w?} {t:b6}
def Co.get(h:Co P gu w0 Pd ρ m wl gs w t){i}(W:ρ i≠.quit 0):∃g,0<i/\gs[i]?=y? g/\At P w t i g (ρ i):=by by_cases Y:i=0\/gs.size<=i;exact absurd (h.out i Y) W;have O:i<gs.size:=o!;have U:=bl O;exact⟨gs[i],o!,U,h.at_ i _ o! U⟩
def Co.wr(h:Co P gu w0 Pd ρ m wl gs w t){i m'}(O:(ρ i).oc=y? m'):∃wl',WR m' wl' w:=by
 obtain⟨g,_,_,U⟩:=h.get (i:=i) λe=>by rw[e]at O;cases O
 exact U.wr O
def Co.is(h:Co P gu w0 Pd ρ m wl gs w t){i}(O:(ρ i).tI=y? J):∃cl,gY w J.c cl:=by
 obtain⟨g,_,_,U⟩:=h.get (i:=i) λe=>by rw[e]at O;cases O
 exact U.is O
def Co.step{i mi rW}(h:Co P gu w0 Pd ρ m wl gs w t)(hi:0<i)(ay:i<gs.size)(hl:(ρ i).live=y? mi)(ae:mi.Le dA)(Y:gw mi dA w w₁)(he:∀e∈es,qd dA e)(ab:WR dA rW w₁)
  (ai:At P w₁ (t++da i fn pos es) i g' ρ') (aj:ρ'.live=y? dA) (an:ρ'.tI=(ρ i).tI) (hc:ρ'.chan=(ρ i).chan) (hs:ρ'.sum=(ρ i).sum)
  (ao:gs'.size=gs.size) (ap:gs'[i]?=y? g') (aq:∀j x,0<j->j≠i->gs'[j]?=y? x->∃y,gs[j]?=y? y/\(At P w₁ (t++da i fn pos es) j y (ρ j)->x=y)) :
  Co P gu w0 Pd (cJ ρ i ρ') m wl gs' w₁ (t++da i fn pos es):=by
 have hr:=eY.pb hl;have ad:=eY.pb aj;obtain⟨az,ar⟩:=h.wr hr;have W:∀c cl,gY w c cl->w₁.1[c]?=w.1[c]?:=λc cl x=>Y.Q7 ar x
 have aa:∀j,(cJ ρ i ρ' j).tI=(ρ j).tI:=λj=>by by_cases e:j=i;subst e;rw[cH];exact an;rw[cI _ _ e]
 have ak:∀j,(cJ ρ i ρ' j).chan=(ρ j).chan:=λj=>by by_cases e:j=i;subst e;rw[cH];exact hc;rw[cI _ _ e]
 have ag:∀j,(cJ ρ i ρ' j).sum=(ρ j).sum:=λj=>by by_cases e:j=i;subst e;rw[cH];exact hs;rw[cI _ _ e]
 have dm:pB m dA:=(pB.grow (h.d0 i mi hr).symm ae Y h.main).symm
 have dj:∀j m',j≠i->(ρ j).oc=y? m'->pB dA m':=λj m' U O=>by obtain⟨wl',au⟩:=h.wr O;exact pB.grow (h.dd i j mi m' (ga U) hr O) ae Y au
 have hrel:∀j y,0<j->j≠i->gs[j]?=y? y->At P w₁ (t++da i fn pos es) j y (ρ j):=by intro j y hj U hy;refine(h.at_ j y hj hy).rely (λm' O=>Y.leaves (h.dd i j mi m' (ga U) hr O) (h.wr O).choose_spec) (λJ hJ=>?_) Y.size Y.os λop ac hg=>absurd (ofEvents_g ac) (by rw[hg];exact U);obtain⟨cl,hx⟩:=h.is hJ;exact W _ cl hx
 have av:∀j x,0<j->gs'[j]?=y? x->At P w₁ (t++da i fn pos es) j x (cJ ρ i ρ' j):=by intro j x al hx;by_cases e:j=i;subst e;rw[ap]at hx;cases hx;rw[cH];exact ai;rw[cI _ _ e];obtain⟨y,hy,aw⟩:=aq j x al e hx;have:=hrel j y al e hy;rw[aw this];exact this
 have si:oG t i dA:=(h.ss i mi hl).grow ae h.low Y.news;refine⟨h.main.rely (Y.leaves (h.d0 i mi hr).symm h.main) Y.size Y.os,av,λj hj=>?_,λj m' O=>?_,λj k m1 m2 U h1 h2=>?_,λj k J1 J2 U h1 h2=>h.cc j k J1 J2 U (by rw[<-aa];exact h1) (by rw[<-aa];exact h2),h.s0.other dm he,λj m' O=>?_,λj J hJ p a ha hb=>?_,h.low.own ab Y.size he,CC h.hears he,?_,si.clean h.clean he,λb hb=>?_,h.f0,λj m' O r b am hb=>?_,λj J hJ=>h.cx j J (by rw[<-aa];exact hJ),cX h.sz Y.size,⟨Y.os.trans h.os.1,Y.output.trans h.os.2⟩,h.kn.app (λj m' r b O hb=>?_) (λop ac a b ha hb _=>?_),h.pd.app aa (λc _ ah=>W c _ ah) (λop ac a c ha _ ah hb=>?_),h.len.same aa⟩;rw[cI _ _ (by rintro rfl;obtain x|x:=hj<;>omega)];exact h.out j (by rw[<-ao];exact hj);by_cases e:j=i;subst e;rw[cH,ad]at O;cases O;exact dm;rw[cI _ _ e]at O;exact h.d0 j m' O;by_cases e:j=i;subst e;rw[cH,ad]at h1;cases h1;rw[cI _ _ (ga U)]at h2;exact dj k m2 (ga U) h2;rw[cI _ _ e]at h1;by_cases e':k=i;subst e';rw[cH,ad]at h2;cases h2;exact(dj j m1 e h1).symm;rw[cI _ _ e']at h2;exact h.dd j k m1 m2 U h1 h2;by_cases e:j=i;subst e;rw[cH,aj]at O;cases O;exact si.own;rw[cI _ _ e]at O;exact(h.ss j m' O).other (dj j m' e (eY.pb O)).symm he;rw[ak]at hJ;obtain⟨_,h1⟩|⟨op,h1,_,h3⟩:=eI ha
 exact h.Ny j J hJ p a h1 hb;obtain⟨e,af,rfl⟩:=bR h1
 have hm:a.loc.isMemory=t?:=by cases hl:a.loc<;>rw[hl]at hb<;>simp[mC]at hb<;>rfl
 obtain⟨b',r',g1,g2,g3⟩:=nu (he e af) h3 hm;rw[hb]at g1;cases g1;obtain⟨cl,s,y,hx⟩:=h.is (eY.vf hJ);have:gY w₁ _ cl:=⟨s,y,by rw[W _ cl ⟨s,y,hx⟩];exact hx⟩;exact ab.z8 this g2;refine(h.lF.mono λj hj=>by rw[ag];exact hj).app λop ac=>.inr (.inr ?_);rw[ofEvents_g ac,ag];exact eY.PH hl;obtain⟨h1,h2⟩:=h.fix b hb;refine⟨cV h1 Y.size,?_⟩;rw[<-h2];by_cases hx:∃r,mi.blk r=y? b;obtain⟨r,hx⟩:=hx;exact Y.still r b hx (h.ff i mi hr r b hx hb);exact Y.old b h1 λr ax=>hx ⟨r,ax⟩;by_cases e:j=i;subst e;rw[cH,ad]at O;cases O;obtain x|x:=Y.news r b am
 exact(ae.loose r b x).2 (h.ff j mi hr r b x hb);have:=(h.fix b hb).1;omega;rw[cI _ _ e]at O;exact h.ff j m' O r b am hb;by_cases e:j=i;subst e;rw[hr]at O;cases O;exact⟨j,dA,r,by rw[cH];exact ad,ae.blk _ _ hb⟩;exact⟨j,m',r,by rw[cI _ _ e];exact O,hb⟩;obtain⟨e,af,rfl⟩:=bR ac
 have hm:a.loc.isMemory=t?:=by cases hl:a.loc<;>rw[hl]at hb<;>simp[mC]at hb<;>rfl
 obtain⟨b',r',g1,g2,g3⟩:=nu (he e af) ha hm;rw[hb]at g1;cases g1;exact .inr ⟨i,dA,r',by rw[cH];exact ad,g2⟩;obtain⟨e,af,rfl⟩:=bR ac
 have hm:a.loc.isMemory=t?:=by cases hl:a.loc<;>rw[hl]at hb<;>simp[mC]at hb<;>rfl
 obtain⟨b',r',g1,g2,g3⟩:=nu (he e af) ha hm;rw[hb]at g1;cases g1;obtain⟨s,y,hx⟩:=ah;exact ab.z8 (cl:=f?) ⟨s,y,by rw[W _ f? ⟨s,y,hx⟩];exact hx⟩ g2
def Co.Tt{i}(h:Co P gu w0 Pd ρ m wl gs w t)(d)(hi:0<i)(ag:i<gs.size)(aa:At P (w.at d) t i g' ρ')(hr:ρ'.oc=(ρ i).oc)(hl:ρ'.live=(ρ i).live)(O:ρ'.tI=(ρ i).tI)(hc:ρ'.chan=(ρ i).chan)(hs:ρ'.sum=(ρ i).sum)
  (ac:gs'.size=gs.size) (ad:gs'[i]?=y? g') (ae:∀j x,0<j->j≠i->gs'[j]?=y? x->∃y,gs[j]?=y? y/\(At P (w.at d) t j y (ρ j)->x=y)) :
  Co P gu w0 Pd (cJ ρ i ρ') m wl gs' (w.at d) t:=by
 have key:∀{α:Type}(f:eY->α),f ρ'=f _->∀j,f (cJ ρ i ρ' j)=f (ρ j):=λf hf j=>by by_cases e:j=i;subst e;rw[cH];exact hf;rw[cI _ _ e]
 have hrel:∀j y,0<j->gs[j]?=y? y->At P (w.at d) t j y (ρ j):=by intro j y Y hy;have:=(h.at_ j y Y hy).rely (w₁:=w.at d) (u:=#[]) (λ_ _ _ _ _=>rfl) (λ_ _=>rfl) (cW _) q? i!;simpa using this
 refine⟨h.main.at d,λj x ab hx=>?_,λj Y=>?_,λj m' U=>h.d0 j m' (by rw[<-key _ hr];exact U),λj k m1 m2 W h1 h2=>h.dd j k m1 m2 W (by rw[<-key _ hr];exact h1) (by rw[<-key _ hr];exact h2),λj k J1 J2 W h1 h2=>h.cc j k J1 J2 W (by rw[<-key _ O];exact h1) (by rw[<-key _ O];exact h2),h.s0,λj m' U=>h.ss j m' (by rw[<-key _ hl];exact U),λj J hJ=>h.Ny j J (by rw[<-key _ hc];exact hJ),h.low,h.hears,h.lF.mono λj Y=>by rw[key _ hs];exact Y,h.clean,h.fix,h.f0,λj m' U=>h.ff j m' (by rw[<-key _ hr];exact U),λj J hJ=>h.cx j J (by rw[<-key _ O];exact hJ),h.sz,h.os,h.kn.same (key _ hr),h.pd.same (key _ O) q?,h.len.same (key _ O)⟩;by_cases e:j=i;subst e;rw[ad]at hx;cases hx;rw[cH];exact aa;rw[cI _ _ e];obtain⟨y,hy,af⟩:=ae j x ab e hx;have:=hrel j y ab hy;rw[af this];exact this;rw[cI _ _ (by obtain x|x:=Y<;>omega)];exact h.out j (by rw[<-ac];exact Y)
end
end
section
open Go.Conc
open Go.ConcN (upd upd_same upd_ne)
inductive jA(P:P?):eY->eY->Prop
 |quit {q}:jA P (.quit q) (.quit (q+1))|ended {h J m S q}:jA P (.ended h J m S q) (.ended h J m S (q+1))|close {J m S n m' S' q}:jA P (.ended false J m' S' q) (.act J m S n)|act {J m S n m' S' n'}:oF P J.Stop S' S->jA P (.act J m' S' n') (.act J m S n)|kD {J m S n m' S' n' v}:oF P J.Stop S' S->jA P (.kD J m' S' n' v) (.act J m S n)|start {J m S k}:jA P (.start J m S k) (.start J m S (k+1))|go {J m S k}:jA P (.act J m S 0) (.start J m S k)
section
variable {P:P?}
def E2(q):Acc (jA P) (.quit q):=by
 induction q with
 |zero=>exact .intro _ λy h=>by cases h
 |succ q O=>exact .intro _ λy h=>by cases h;exact O
def Cw(hd)(J)(m)(S)(q):Acc (jA P) (.ended hd J m S q):=by
 induction q with
 |zero=>exact .intro _ λy h=>by cases h
 |succ q O=>exact .intro _ λy h=>by cases h;exact O
def EI(J)(m)(S)(n)(v):Acc (jA P) (.kD J m S n v):=.intro _ λy h=>by cases h
def DN{J S}(h:Acc (oF P J.Stop) S):∀(m)(n),Acc (jA P) (.act J m S n):=by
 induction h with
 |intro S _ U=>
  intro m n;refine .intro _ λy W=>?_
  cases W with
  |close=>exact Cw ..|act O=>exact U _ O ..|kD O=>exact EI ..
def LA{J S}(h:Acc (oF P J.Stop) S)(m)(k):Acc (jA P) (.start J m S k):=by
 induction k with
 |zero=>exact .intro _ λy O=>by cases O;exact DN h ..
 |succ k U=>
  refine .intro _ λy O=>?_
  cases O with
  |start=>exact U|go=>exact DN h ..
def sQ.Vm{J m S}:∀{k g},sQ P J m S k g->∀{w},WR m S.w w->xr P S
 |0,_,h,w,O=>by
  obtain⟨fr,cs,d,es,_,_,U⟩:=h.2 w O
  exact⟨_,_,_,_,_,_,_,U⟩
 |k+1,_,h,w,O=>by obtain⟨g',d,es,_,_,U⟩:=h.2 w O;exact U.Vm O
def At.acc{w t i g ρ}(h:At P w t i g ρ):Acc (jA P) ρ:=by
 cases ρ with
 |quit q=>exact E2 q|ended hd J m S q=>exact Cw ..|act J m S n=>obtain⟨O,_,U⟩:=h;obtain⟨fr,cs,_,W⟩:=U.tM;exact DN (U.pq.acc O.blind ⟨_,_,_,_,_,_,_,W⟩) ..
 |kD J m S n v=>exact EI ..|start J m S k=>obtain⟨O,_,_,Y,_,h6,h7⟩:=h;exact LA (Y.acc O.blind (h7.Vm h6)) ..
end
section
variable {P:P?} {gu:Nat->Prop} {w0:w?} {Pd:Nat->Prop} {ρ:Nat->eY} {m:Ren} {wl:w?} {gs gs':Array Goroutine} {w w₁:w?} {t:b6}
def Co.acc(h:Co P gu w0 Pd ρ m wl gs w t):Acc (I3 (jA P) gs.size) ρ:=by refine NT _ _ λi O=>?_;by_cases e:i=0;rw[h.out i (.inl e)];exact E2 0;exact(h.at_ i _ o! (bl O)).acc
def Mx(i)(fn)(pos)(c):da i fn pos #[⟨.obj c,f?,t?⟩,⟨.obj c,t?,t?⟩]=#[{g:=i,fn,pos,act:=.access ⟨.obj c,f?,t?⟩},{g:=i,fn,pos,act:=.close c}]:=by rw[bZ];simp[ey]
def Co.close{i g' J mi S n s r fn pos}(h:Co P gu w0 Pd ρ m wl gs w t)(hi:0<i)(aq:i<gs.size)(ac:ρ i=.act J mi S n)(ar:J.Stop S)(hn:n=l? J.L)(ao:WR mi S.w w)(hc:w.1[J.c]?=y? (.chan 0 #[] f? s r f?))(au:Lv P 2 g')
  (ag:w₁={w with heap:=w.1.setIfInBounds J.c (.chan 0 #[] t? s r f?)}) (av:gs'.size=gs.size) (aw:gs'[i]?=y? g')
  (ap:∀j x,0<j->j≠i->gs'[j]?=y? x->∃y,gs[j]?=y? y/\(At P w₁ (t++da i fn pos #[⟨.obj J.c,f?,t?⟩,⟨.obj J.c,t?,t?⟩]) j y (ρ j)->x=y)) :
  Co P gu w0 Pd (cJ ρ i (.ended f? J mi S 2)) m wl gs' w₁ (t++da i fn pos #[⟨.obj J.c,f?,t?⟩,⟨.obj J.c,t?,t?⟩]):=by
 subst ag;have ae:J.c<w.1.size:=lh hc;have U:w.1.size<=(w.1.setIfInBounds J.c (.chan 0 #[] t? s r f?)).size:=i!;have ah:∃a b x s y t,w.1[J.c]?=y? (.chan a b x s y t):=⟨_,_,_,_,_,_,hc⟩
 have key:∀{α:Type}(f:eY->α),f (.ended f? J mi S 2)=f (ρ i)->∀j,f (cJ ρ i (.ended f? J mi S 2) j)=f (ρ j):=λf hf j=>by by_cases e:j=i;subst e;rw[cH];exact hf;rw[cI _ _ e]
 have kr:=key eY.oc (by rw[ac];rfl);have kj:=key eY.tI (by rw[ac];rfl);have ks:=key eY.sum (by rw[ac,hn];rfl);have ad:(ρ i).tI=y? J:=by rw[ac];rfl
 have ax:(ρ i).chan=y? J:=by rw[ac];rfl
 have kl:∀j m',(cJ ρ i (.ended f? J mi S 2) j).live=y? m'->j≠i/\(ρ j).live=y? m':=λj m' hx=>by by_cases e:j=i;subst e;rw[cH]at hx;cases hx;rw[cI _ _ e]at hx;exact⟨e,hx⟩
 have kc:∀j J',(cJ ρ i (.ended f? J mi S 2) j).chan=y? J'->j≠i/\(ρ j).chan=y? J':=λj J' hx=>by by_cases e:j=i;subst e;rw[cH]at hx;cases hx;rw[cI _ _ e]at hx;exact⟨e,hx⟩
 have aa:=Mx i fn pos J.c;generalize hu:da i fn pos #[⟨.obj J.c,f?,t?⟩,⟨.obj J.c,t?,t?⟩]=u at aa ap⊢;have ai:∀op∈u,op.g=i:=by rw[<-hu];exact λop O=>ofEvents_g O
 have Y:∀op∈u,∀a,op.act.touch?=y? a->a=⟨.obj J.c,f?,.atomic⟩:=by
  intro op O a ha;rw[aa]at O;simp only[cO,cK,cL,or_false]at O;obtain rfl|rfl:=O
  simp only[eC,db]at ha;exact ha.symm
  cases ha
 have af:∀j m' wl',oG t j m'->WR m' wl' w->oG (t++u) j m':=by
  intro j m' wl' hs hw p a b rr ha hb hr ay;obtain⟨_,h1⟩|⟨op,h1,_,h3⟩:=eI ha
  exact(hs p a b rr h1 hb hr ay).app u;have:=Y op h1 a h3;subst this;cases hb;exact absurd hr (hw.z8 ⟨s,r,hc⟩)
 refine⟨h.main.rely (lL h.main ah) U q?,λj x aj hx=>?_,λj hj=>?_,λj m' W=>h.d0 j m' (by rw[<-kr];exact W),λj k m1 m2 ak h1 h2=>h.dd j k m1 m2 ak (by rw[<-kr];exact h1) (by rw[<-kr];exact h2),λj k J1 J2 ak h1 h2=>h.cc j k J1 J2 ak (by rw[<-kj];exact h1) (by rw[<-kj];exact h2),af 0 m wl h.s0 h.main,λj m' W=>?_,λj J' ab p a ha hb=>?_,λp a b ha hb=>?_,h.hears.append λop O=>?_,?_,λsaid=>?_,λb hb=>?_,h.f0,λj m' W=>h.ff j m' (by rw[<-kr];exact W),λj J' ab=>h.cx j J' (by rw[<-kj];exact ab),cX h.sz U,h.os,h.kn.app (λj m' r b W hb=>⟨j,m',r,by rw[kr];exact W,hb⟩) (λop O a b ha hb az=>?_),h.pd.app kj (λc al _=>bj ((h.pd c al).2.2.1 i J ad)) (λop O a c ha al _ hb=>?_),h.len.same kj⟩;by_cases e:j=i;subst e;rw[aw]at hx;cases hx;rw[cH];have am:=h.at_ j gs[j] aj (bl aq);rw[ac]at am;refine⟨au,am.2.2.oc,⟨ar,am.1⟩,ao.rely (lL ao ah) U q?,⟨s,r,by simp[ae]⟩,t.size+1,{g:=j,fn,pos,act:=.close J.c},by rw[aa];simp,q?,q?,λp a op ha O hg=>?_⟩;have:p<(t++u).size:=cm O;rw[aa]at this;simp at this;omega;rw[cI _ _ e];obtain⟨y,hy,a0⟩:=ap j x aj e hx
 have:At P {w with heap:=w.1.setIfInBounds J.c (.chan 0 #[] t? s r f?)} (t++u) j y (ρ j):=by refine(h.at_ j y aj hy).rely (λm' W=>?_) (λJ' ab=>?_) U q? λop O hg=>absurd (ai op O) (by rw[hg];exact e);obtain⟨wl',an⟩:=h.wr W;exact lL an ah;exact bj (h.cc i j J J' (ga e) ad ab)
 rw[a0 this];exact this;rw[cI _ _ (by obtain x|x:=hj<;>omega)];exact h.out j (by rw[<-av];exact hj);obtain⟨e,W⟩:=kl j m' W;obtain⟨wl',an⟩:=h.wr (eY.pb W);exact af j m' wl' (h.ss j m' W) an;obtain⟨e,ab⟩:=kc j J' ab;obtain⟨_,h1⟩|⟨op,h1,_,h3⟩:=eI ha
 exact h.Ny j J' ab p a h1 hb;have:=Y op h1 a h3;subst this;simp only[mC,db]at hb;exact h.cc i j J J' (ga e) ad (eY.vf ab) hb;obtain⟨_,h1⟩|⟨op,h1,_,h3⟩:=eI ha
 exact cV (h.low p a b h1 hb) U;have:=Y op h1 a h3;subst this;simp only[mC,db]at hb;subst hb;exact cV ae U;rw[aa]at O;simp only[cO,cK,cL,or_false]at O;obtain rfl|rfl:=O<;>simp
 refine(h.lF.mono λj hj=>by rw[ks];exact hj).app λop O=>.inr (.inr ?_);rw[ai op O,ks,ac];simp[eY.sum];refine cg (h.clean said) ai λq a ha op O b hb a1=>?_;have:=Y op O b hb;subst this;exact absurd (by rw[a1.1];rfl) (h.Ny i J ax q a ha);obtain⟨h1,h2⟩:=h.fix b hb;refine⟨cV h1 U,?_⟩;rw[<-h2];exact bj (by rintro rfl;exact h.cx i J ad hb);have:=Y op O a ha;subst this;cases hb;exact absurd az (h.cx i J ad);have:=Y op O a ha;subst this;simp only[mC,db]at hb;exact(h.pd c al).2.2.1 i J ad hb
end
end
section
open Go.Conc
open Go.ConcN (upd upd_same upd_ne)
variable {a g:Goroutine} {r:eY} {u:b6}
section
variable {P:P?} {gu:Nat->Prop} {w0:w?} {Pd:Nat->Prop} {ρ:Nat->eY} {m:Ren} {wl:w?} {gs gs':Array Goroutine} {w w₁:w?} {t:b6} {sl:Option (Nat×Nat)}
def At.offers{i ρ}(h:At P w t i g ρ)(c):bY g c f?=[]:=by
 cases ρ with
 |quit q=>exact bS (by obtain x|x:=Lv.status h<;>rw[x]<;>simp) ..|ended O J m S q=>exact bS (by obtain x|x:=h.1.status<;>rw[x]<;>simp) ..|act J m S n=>obtain⟨_,_,h⟩:=h;obtain⟨fr,cs,rfl,_⟩:=h.tM;exact bS (by simp[G]) ..
 |kD J m S n v=>obtain⟨_,_,U,z,rfl,_⟩:=h;exact offersAt_parked_send' ..
 |start J m S k=>exact bS (by rw[h.2.2.2.2.2.2.status];simp) ..
def tf{n i}(O:i<n)(h:jA P r (ρ i)):I3 (jA P) n (cJ ρ i r) ρ:=⟨i,O,by rw[cH];exact h,λj U=>cI _ _ U⟩
def tF{i}(h:r.sum=(ρ i).sum)(j):(cJ ρ i r j).sum=(ρ j).sum:=by by_cases e:j=i;subst e;rw[cH];exact h;rw[cI _ _ e]
def qJ{i g'}(w₁):∀j x,0<j->j≠i->((gs.map (woken P g g' w₁)).setIfInBounds i g')[j]?=y? x->∃y,gs[j]?=y? y/\(At P w₁ u j y (ρ j)->x=y):=by intro j x _ O U;rw[bj (ga O),bu]at U;obtain⟨y,W,rfl⟩:=cE.1 U;exact⟨y,W,λh=>h.woken g g'⟩
def zr{i g'}(w₁):∀j x,0<j->j≠i->(gs.setIfInBounds i g')[j]?=y? x->∃y,gs[j]?=y? y/\(At P w₁ u j y (ρ j)->x=y):=by intro j x _ O U;rw[bj (ga O)]at U;exact⟨x,U,λ_=>rfl⟩
def KW{i g'}(U:0<i)(O:gs[0]?=y? a):((gs.map (woken P g g' w₁)).setIfInBounds i g')[0]?=y? (woken P g g' w₁ a):=by rw[bj o!,bu,O];rfl
def Q4(g g' a)(w):woken P g g' w a=a\/woken P g g' w a=a.again w:=by unfold woken;split;exact .inr rfl;exact .inl rfl
def Co.other{i}(h:Co P gu w0 Pd ρ m wl gs w t)(hi:0<i)(hg:gs[i]?=y? g)(ad:g.status=.running)(h0:gs[0]?=y? a)(an:∀J mi S n g₁ cs w₁ es,ρ i=.act J mi S n->bz P f? g w=.comm g₁ cs t? .send w₁ es->bY a J.c f?=[]) :
  ∃gs' w' ops ρ',bO P (bW gs w sl) i=(.next (bW gs' w' sl),ops)/\Co P gu w0 Pd ρ' m wl gs' w' (t++ops)/\I3 (jA P) gs.size ρ' ρ/\(∀j,(ρ' j).sum=(ρ j).sum)/\gs'.size=gs.size/\((gs'[0]?=y? a/\∀j,(ρ' j).chan=(ρ j).chan)\/gs'[0]?=y? (a.again w'))/\(∀J mi S n v,ρ' i=.kD J mi S n v->bY a J.c f?=[])/\(∀j,j≠i->ρ' j=ρ j):=by
 have U:i<gs.size:=(bk.1 hg).1;have ae:(i==0)=f?:=j!;have Y:=h.at_ i g hi hg
 have lv:∀q,Lv P q g->∃q' g',q=q'+1/\(∀w,bz P f? g w=.go g' w #[])/\Lv P q' g':=by
  intro q hq
  cases q with
  |zero=>rw[show g.status=.finished from hq]at ad;cases ad
  |succ q=>
   obtain x|⟨_,g',x,y⟩:=hq
   rw[x]at ad;cases ad;exact⟨q,g',q?,x,y⟩
 have aw:w.at w.drawn=w:=rfl
 have ac:∀r:eY,r.chan=(ρ i).chan->∀j,(cJ ρ i r j).chan=(ρ j).chan:=λr hr j=>by by_cases e:j=i;subst e;rw[cH];exact hr;rw[cI _ _ e]
 have zero:∀(g':Goroutine)(w₁:w?)(r:eY),r.chan=(ρ i).chan->((((gs.map (woken P g g' w₁)).setIfInBounds i g')[0]?=y? a/\∀j,(cJ ρ i r j).chan=(ρ j).chan)\/((gs.map (woken P g g' w₁)).setIfInBounds i g')[0]?=y? (a.again w₁)):=by
  intro g' w₁ r hr;rw[KW hi h0];obtain x|x:=Q4 (P:=P) g g' a w₁
  exact .inl ⟨by rw[x],ac r hr⟩;exact .inr (by rw[x])
 cases O:ρ i with
 |quit q=>
  rw[O]at Y;obtain⟨q',g',rfl,hs,hq⟩:=lv q Y;have W:=bT (P:=P) (sl:=sl) (i:=i) hg (by rw[ae];exact hs w);have e0:da i g.frame.fn g.frame.place #[]=#[]:=by rw[bZ];simp
  rw[e0]at W;refine⟨_,w,_,cJ ρ i (.quit q'),W,?_,tf U (by rw[O];exact .quit),tF (by rw[O];rfl),i!,zero g' w _ (by rw[O];rfl),λ_ _ _ _ _ x=>(by rw[cH]at x;cases x),λj hj=>cI _ _ hj⟩;rw[bv];exact h.Tt (gs':=(gs.map (woken P g g' w)).setIfInBounds i g') w.drawn hi U (ρ':=.quit q') (g':=g') hq (by rw[O];rfl) (by rw[O];rfl) (by rw[O];rfl) (by rw[O];rfl) (by rw[O];rfl) i! (by simp[U]) (qJ (w.at w.drawn))
 |ended hd J mi S q=>
  rw[O]at Y;obtain⟨q',g',rfl,hs,hq⟩:=lv q Y.1;have W:=bT (P:=P) (sl:=sl) (i:=i) hg (by rw[ae];exact hs w);have e0:da i g.frame.fn g.frame.place #[]=#[]:=by rw[bZ];simp
  rw[e0]at W;refine⟨_,w,_,cJ ρ i (.ended hd J mi S q'),W,?_,tf U (by rw[O];exact .ended),tF (by rw[O];cases hd<;>rfl),i!,zero g' w _ (by rw[O];rfl),λ_ _ _ _ _ x=>(by rw[cH]at x;cases x),λj hj=>cI _ _ hj⟩;rw[bv];exact h.Tt (gs':=(gs.map (woken P g g' w)).setIfInBounds i g') w.drawn hi U (ρ':=.ended hd J mi S q') (g':=g') ⟨hq,Y.2⟩ (by rw[O];rfl) (by rw[O];rfl) (by rw[O];rfl) (by rw[O];rfl) (by rw[O];cases hd<;>rfl) i! (by simp[U]) (qJ (w.at w.drawn))
 |kD J mi S n v=>rw[O]at Y;obtain⟨_,_,g0,z,rfl,_⟩:=Y;cases ad
 |start J mi S k=>
  rw[O]at Y;obtain⟨h1,h2,h3,h4,h5,h6,h7⟩:=Y;have aa:(ρ i).live=y? mi:=by rw[O];rfl
  have step:∀g' d es(r:eY),bz P f? g w=.go g' (w.at d) es->(∀e∈es,qd mi e)->At P (w.at d) (t++da i g.frame.fn g.frame.place es) i g' r->r.live=y? mi->r.tI=y? J->r.chan=y? J->r.sum=y? (J,0)->jA P r (.start J mi S k)->
    ∃gs' w' ops ρ',bO P (bW gs w sl) i=(.next (bW gs' w' sl),ops)/\Co P gu w0 Pd ρ' m wl gs' w' (t++ops)/\I3 (jA P) gs.size ρ' ρ/\(∀j,(ρ' j).sum=(ρ j).sum)/\gs'.size=gs.size/\((gs'[0]?=y? a/\∀j,(ρ' j).chan=(ρ j).chan)\/gs'[0]?=y? (a.again w'))/\(∀J mi S n v,ρ' i=.kD J mi S n v->bY a J.c f?=[])/\(∀j,j≠i->ρ' j=ρ j):=by
   intro g' d es r hs he hr e1 e2 e3 e4 aj;have W:=bT (P:=P) (sl:=sl) (i:=i) hg (by rw[ae];exact hs);exact⟨_,_,_,cJ ρ i r,W,h.step (gs':=(gs.map (woken P g g' (w.at d))).setIfInBounds i g') hi U aa (Ren.Le.refl mi) (gw.at mi w d) he (h6.at d) hr e1 (by rw[O];exact e2) (by rw[O];exact e3) (by rw[O];exact e4) i! (by simp[U]) (qJ _),tf U (by rw[O];exact aj),tF (by rw[O];exact e4),i!,zero g' _ r (by rw[O];exact e3),λ_ _ _ _ _ x=>(by rw[cH]at x;subst x;cases aj),λj hj=>cI _ _ hj⟩
  cases k with
  |zero=>obtain⟨fr,cs,d,es,hs,he,ab⟩:=h7.2 w h6;exact step _ d es (.act J mi S 0) hs he ⟨h1,h2,h3,h4,⟨fr,cs,q?,ab⟩,[],h5,q?⟩ q? q? q? q? .go
  |succ k=>obtain⟨g',d,es,hs,he,af⟩:=h7.2 w h6;exact step g' d es (.start J mi S k) hs he ⟨h1,h2,h3,h4,h5,h6.at d,af⟩ q? q? q? q? .start
 |act J mi S n=>
  rw[O]at Y;obtain⟨h1,⟨s,r,hc⟩,h3⟩:=Y;have aa:(ρ i).live=y? mi:=by rw[O];rfl
  obtain⟨ax,ao⟩:=h.wr (eY.pb aa);by_cases af:J.Stop S;obtain⟨hn,fr,ps,a',ty,cs,rfl,hm,hd,hq,ar⟩:=h3.stands h1 af;obtain⟨fr',cs',e,ab⟩:=h3.tM;have hs:=closing (P:=P) (ps:=ps) (w:=w) hm hd hq hc;have W:=bT (P:=P) (sl:=sl) (i:=i) hg (by rw[ae];exact hs)
  have au:∀o,woken P (G fr [ps]) (G {fr with defers:=[]} [ps]) {w with heap:=w.1.setIfInBounds J.c (.chan 0 #[] t? s r f?)} o=o.again {w with heap:=w.1.setIfInBounds J.c (.chan 0 #[] t? s r f?)}:=by intro o;unfold woken;rw[if_pos];simp[mayWake,G,hm]
  refine⟨_,_,_,cJ ρ i (.ended f? J mi S 2),W,?_,tf U (by rw[O];exact .close),tF (by rw[O,hn];rfl),i!,.inr ?_,λ_ _ _ _ _ x=>(by rw[cH]at x;cases x),λj hj=>cI _ _ hj⟩;exact h.close (gs':=(gs.map (woken P (G fr [ps]) (G {fr with defers:=[]} [ps]) {w with heap:=w.1.setIfInBounds J.c (.chan 0 #[] t? s r f?)})).setIfInBounds i (G {fr with defers:=[]} [ps])) hi U O af hn ab.world hc ar rfl i! (by simp[U]) (qJ _);rw[KW hi h0,au];have ap:=h3.Ce h1 af;generalize ai:bz P f? g w=sg at ap
  cases ap with
  |@go S' dA g₁ w₁ es al am ak hk he=>have W:=bT (P:=P) (sl:=sl) (i:=i) hg (by rw[ae];exact ai);obtain⟨fr',cs',e,ab⟩:=ak.tM;exact⟨_,_,_,cJ ρ i (.act J dA S' n),W,h.step (gs':=(gs.map (woken P g g₁ w₁)).setIfInBounds i g₁) hi U aa am hk he ab.world ⟨h1,⟨s,r,hk.chan ao hc⟩,ak⟩ q? (by rw[O];rfl) (by rw[O];rfl) (by rw[O];rfl) i! (by simp[U]) (qJ _),tf U (by rw[O];exact .act al),tF (by rw[O];rfl),i!,zero g₁ _ _ (by rw[O];rfl),λ_ _ _ _ _ x=>(by rw[cH]at x;cases x),λj hj=>cI _ _ hj⟩
  |@send S' dA g₁ w₁ es v' z' al am ag hk he=>
   have ah:=hk.chan ao hc
   have hp:bF (gs.setIfInBounds i ph) J.c f?=[]:=by
    refine cz λj x hx=>?_;obtain⟨_,rfl⟩|⟨ay,hx⟩:=cb gs i j x hx
    exact cf _ _;by_cases hj:j=0;subst hj;rw[h0]at hx;cases hx;exact an J mi S n _ _ _ _ O ai;exact(h.at_ j x o! hx).offers J.c
   have W:=c8 (P:=P) (sl:=sl) (i:=i) hg (by rw[ae];exact ai) (by
    intro cc aq;simp only[cO,cK,cL,or_false]at aq;subst aq
    exact ways_send_none ah i! hp)
   obtain⟨v0,fr',cs',e,ab⟩:=ag.tM;obtain⟨f0,az,_,_,_,_,_,_,_,av,_⟩:=ab.tM;refine⟨_,_,_,cJ ρ i (.kD J dA S' n v'),W,h.step (gs':=gs.setIfInBounds i _) hi U aa am hk he av ⟨h1,⟨s,r,ah⟩,g₁,z',q?,ag⟩ q? (by rw[O];rfl) (by rw[O];rfl) (by rw[O];rfl) i! (by simp[U]) (zr _),tf U (by rw[O];exact .kD al),tF (by rw[O];rfl),i!,.inl ⟨?_,ac _ (by rw[O];rfl)⟩,λ_ _ _ _ _ x=>(by rw[cH]at x;cases x;exact an J mi S n _ _ _ _ O ai),λj hj=>cI _ _ hj⟩;rw[bj o!];exact h0
end
end
section
open Go.Conc
open Go.ConcN (upd upd_same upd_ne)
variable {a:Goroutine} {J:qK} {S:LS} {mi:Ren}
structure mE(P:P?) where
 Up:Machine->b6->Prop
 Fin:Machine->Stepped×Array MemOp->b6->Prop
 back:∀M t,Fin M (bN P M) t->Up M t
 next:∀M M' ops t,Up M' (t++ops)->Fin M (.next M',ops) t
def su{u:List MemOp}(U:∀op∈u,op.act.touch?=x?):∀{t said},¬bQ said t->¬bQ said (t++u.toArray):=by
 induction u with
 |nil=>simpa using h|cons x u W=>intro t said h;have:t++(x::u).toArray=(t++#[x])++u.toArray:=i!;rw[this];refine W (λop O=>U op (by simp[O])) ?_;refine cg (g:=x.g) h (λop O=>by simp at O;rw[O]) λi a _ op O b hb _=>?_;simp at O;subst O;rw[U op i!]at hb;cases hb
section
variable {P:P?} {gu:Nat->Prop} {w0:w?} {Pd:Nat->Prop} {ρ:Nat->eY} {m:Ren} {wl:w?} {gs gs':Array Goroutine} {w w₁:w?} {t:b6} {sl:Option (Nat×Nat)}
def Co.at(h:Co P gu w0 Pd ρ m wl gs w t)(d):Co P gu w0 Pd ρ m wl gs (w.at d) t:=by refine⟨h.main.at d,λi g O U=>?_,h.out,h.d0,h.dd,h.cc,h.s0,h.ss,h.Ny,h.low,h.hears,h.lF,h.clean,h.fix,h.f0,h.ff,h.cx,h.sz,h.os,h.kn,h.pd.same (λ_=>rfl) q?,h.len⟩;have:=(h.at_ i g O U).rely (w₁:=w.at d) (u:=#[]) (λ_ _ _ _ _=>rfl) (λ_ _=>rfl) (cW _) q? i!;simpa using this
def Co.awake(h:Co P gu w0 Pd ρ m wl gs w t)(W:gs[0]?=y? a)(Y:a.status=.running\/a.status=.blocked\/a.status=.finished):∀g∈gs,cA g:=by
 intro g hg;obtain⟨i,U,rfl⟩:=bn.1 hg;obtain rfl|O:=cY i
 have:=by simpa[bl U]using W
 rw[this];exact awake_of Y;exact awake_of (h.at_ i _ O (bl U)).status
def turn{Z:mE P}{K:Nat->Option (qK×Nat)}{N}(O:a.status=.running)
  (hm:∀ρ gs w sl U d t,Co P gu w0 Pd ρ m wl gs (w.at d) t->(∀j,(ρ j).sum=K j)->gs[0]?=y? a->gs.size=N->Z.Fin (bW gs w sl) (bO P (bW gs (w.at d) U) 0) t) :
  ∀ρ gs w sl t,Co P gu w0 Pd ρ m wl gs w t->(∀j,(ρ j).sum=K j)->gs[0]?=y? a->gs.size=N->Z.Up (bW gs w sl) t:=by
 intro ρ gs w sl t h hK Y hN;have W:=h.acc;rw[hN]at W;revert hK gs w sl t;induction W with
 |intro ρ _ ih=>
  intro gs w sl t h hK Y hN;obtain⟨i,g,d,U,hi,hg,ac⟩:=cn (P:=P) (w:=w) (sl:=sl) (h.awake Y (.inl O)) ⟨0,a,Y,O⟩;refine Z.back _ _ ?_;rw[ac];obtain rfl|aa:=cY i
  exact hm ρ gs w sl U d t (h.at d) hK Y hN;obtain⟨gs',w',ops,ρ',hr,ad,ae,ab,af,hz,_,_⟩:=(h.at d).other (sl:=U) aa hi hg Y λJ mi S n _ _ _ _ _ _=>bS (by rw[O];simp) ..;rw[hr];refine Z.next _ _ _ _ (ih ρ' (hN▸ae) gs' w' U _ ad (λj=>(ab j).trans (hK j)) ?_ (af.trans hN));obtain⟨x,_⟩|x:=hz
  exact x;rw[x,cv _ (.inl O)]
def Co.Vo{i g₁ n s r s' r' v z}{u:List MemOp}(h:Co P gu w0 Pd ρ m wl gs w t)(hi:0<i)(ad:ρ i=.kD J mi S n v)(al:gs[i]?=y? (parked g₁ #[ca J.c v z] .send))(hc:w.1[J.c]?=y? (.chan 0 #[] f? s r f?))
  (ah:w₁={w with heap:=w.1.setIfInBounds J.c (.chan 0 #[] f? s' r' f?)}) (hu:∀op∈u,op.act.touch?=x?) (au:∀op∈u,op.act≠.mark .disable/\op.act≠.mark .enable)
  (av:gs'.size=gs.size) (am:gs'[i]?=y? (bU g₁ gz)) (aw:∀j,0<j->j≠i->gs'[j]?=gs[j]?) :
  ∃ab,Co P gu w0 Pd (cJ ρ i (.act J ab S (n+1))) m wl gs' w₁ (t++u.toArray):=by
 subst ah;have a5:i<gs.size:=(bk.1 al).1;have an:J.c<w.1.size:=lh hc;have W:w.1.size<=(w.1.setIfInBounds J.c (.chan 0 #[] f? s' r' f?)).size:=i!;have ai:∃a b x s y t,w.1[J.c]?=y? (.chan a b x s y t):=⟨_,_,_,_,_,_,hc⟩;have ao:=h.at_ i _ hi al;rw[ad]at ao;obtain⟨ax,_,g0,z0,eg,ap⟩:=ao
 have e0:g0=g₁\/bU g0 gz=bU g₁ gz:=by obtain⟨v0,fr',cs',e',_⟩:=ap.tM;subst e';refine .inr ?_;have:=congrArg (λg:Goroutine=>bU g gz) eg;exact this.symm
 have af:bU g0 gz=bU g₁ gz:=e0.elim (λe=>by rw[e]) id;obtain⟨ab,a6,hb,hl,ac⟩:=ap.done;have aj:(ρ i).tI=y? J:=by rw[ad];rfl
 have aq:(ρ i).oc=y? mi:=by rw[ad];rfl
 refine⟨ab,?_⟩
 have kj:∀j,(cJ ρ i (.act J ab S (n+1)) j).tI=(ρ j).tI:=λj=>by by_cases e:j=i;subst e;rw[cH,ad];rfl;rw[cI _ _ e]
 have kc:∀j,(cJ ρ i (.act J ab S (n+1)) j).chan=(ρ j).chan:=λj=>by by_cases e:j=i;subst e;rw[cH,ad];rfl;rw[cI _ _ e]
 have kr:∀j m',(cJ ρ i (.act J ab S (n+1)) j).oc=y? m'->∃Y,(ρ j).oc=y? Y/\m'.blk=Y.blk/\m'.loose=Y.loose:=λj m' hx=>by by_cases e:j=i;subst e;rw[cH]at hx;cases hx;exact⟨mi,aq,hb,hl⟩;rw[cI _ _ e]at hx;exact⟨m',hx,q?,q?⟩
 have kl:∀j m',(cJ ρ i (.act J ab S (n+1)) j).live=y? m'->∃Y,(ρ j).live=y? Y/\m'.blk=Y.blk/\m'.loose=Y.loose:=λj m' hx=>by by_cases e:j=i;subst e;rw[cH]at hx;cases hx;exact⟨mi,by rw[ad];rfl,hb,hl⟩;rw[cI _ _ e]at hx;exact⟨m',hx,q?,q?⟩
 have U:∀op∈u.toArray,op∈u:=λop O=>by simpa using O
 refine⟨h.main.rely (lL h.main ai) W q?,λj x ar hx=>?_,λj hj=>?_,λj m' aa=>?_,λj k m1 m2 ak h1 h2=>?_,λj k J1 J2 ak h1 h2=>h.cc j k J1 J2 ak (by rw[<-kj];exact h1) (by rw[<-kj];exact h2),h.s0.mute λop O=>hu op (U op O),λj m' aa=>?_,λj J' ae p a ha hb=>?_,λp a b ha hb=>?_,h.hears.append λop O=>au op (U op O),?_,λsaid=>su hu (h.clean said),λb hb=>?_,h.f0,λj m' aa r b hr hb=>?_,λj J' ae=>h.cx j J' (by rw[<-kj];exact ae),cX h.sz W,h.os,h.kn.app (λj m' r b aa hx=>?_) (λop O a b ha _ _=>by rw[hu op (U op O)]at ha;cases ha),h.pd.app kj (λc ay _=>bj ((h.pd c ay).2.2.1 i J aj)) (λop O a c ha _ _=>by rw[hu op (U op O)]at ha;cases ha),h.len.same kj⟩;by_cases e:j=i;subst e;rw[am]at hx;cases hx;rw[cH,<-af];obtain⟨fr,cs,e,ag⟩:=ac.tM;exact⟨ax,⟨s',r',by simp[an]⟩,ac.oc,ac.pq,⟨fr,cs,e,ag.rely (lL ag.world ai) W q?⟩,ac.ix⟩;rw[cI _ _ e];rw[aw j ar e]at hx;refine(h.at_ j x ar hx).rely (λm' aa=>?_) (λJ' ae=>?_) W q? λop O _=>hu op (U op O);obtain⟨wl',az⟩:=h.wr aa;exact lL az ai;exact bj (h.cc i j J J' (ga e) aj ae);rw[cI _ _ (by rintro rfl;obtain x|x:=hj<;>omega)];exact h.out j (by rw[<-av];exact hj);obtain⟨Y,h1,h2,h3⟩:=kr j m' aa;have:=h.d0 j Y h1;unfold pB at this⊢;rw[h2,h3];exact this;obtain⟨a0,a1,a2,a3⟩:=kr j m1 h1;obtain⟨a4,b1,b2,b3⟩:=kr k m2 h2;have:=h.dd j k a0 a4 ak a1 b1;unfold pB at this⊢;rw[a2,a3,b2,b3];exact this;obtain⟨Y,h1,h2,h3⟩:=kl j m' aa;have:=(h.ss j Y h1).mute (u:=u.toArray) λop O=>hu op (U op O);unfold oG at this⊢;rw[h2,h3];exact this;rw[kc]at ae;obtain⟨_,h1⟩|⟨op,h1,_,h3⟩:=eI ha
 exact h.Ny j J' ae p a h1 hb;rw[hu op (U op h1)]at h3;cases h3;obtain⟨_,h1⟩|⟨op,h1,_,h3⟩:=eI ha
 exact cV (h.low p a b h1 hb) W;rw[hu op (U op h1)]at h3;cases h3;refine(h.lF.mono λj hj=>?_).app λop O=>.inl (hu op (U op O));by_cases e:j=i;subst e;rw[cH];simp[eY.sum];rw[cI _ _ e];exact hj;obtain⟨h1,h2⟩:=h.fix b hb;refine⟨cV h1 W,?_⟩;rw[<-h2];exact bj (by rintro rfl;exact h.cx i J aj hb);obtain⟨Y,h1,h2,h3⟩:=kr j m' aa;rw[h2]at hr;rw[h3];exact h.ff j Y h1 r b hr hb;by_cases e:j=i;subst e;rw[aq]at aa;cases aa;exact⟨j,ab,r,by rw[cH];rfl,by rw[hb];exact hx⟩;exact⟨j,m',r,by rw[cI _ _ e];exact aa,hx⟩
def Co.hear{i q fn pos}(h:Co P gu w0 Pd ρ m wl gs w t)(hi:0<i)(U:ρ i=.ended f? J mi S q)(ae:gs'.size=gs.size)(af:∀j,0<j->gs'[j]?=gs[j]?) :
  Co P gu w0 Pd (cJ ρ i (.ended t? J mi S q)) m wl gs' w (t++#[{g:=0,fn,pos,act:=.recvClosed J.c}]):=by
 have hu:∀op∈(#[{g:=0,fn,pos,act:=.recvClosed J.c}]:Array MemOp),op.act.touch?=x?:=by intro op O;simp at O;subst O;rfl
 have key:∀{α:Type}(f:eY->α),f (.ended t? J mi S q)=f (ρ i)->∀j,f (cJ ρ i (.ended t? J mi S q) j)=f (ρ j):=λf hf j=>by by_cases e:j=i;subst e;rw[cH];exact hf;rw[cI _ _ e]
 have kr:=key eY.oc (by rw[U];rfl);have kj:=key eY.tI (by rw[U];rfl);have kl:=key eY.live (by rw[U];rfl);have kc:=key eY.chan (by rw[U];rfl);obtain⟨gi,_,ac,ag⟩:=h.get (i:=i) (by rw[U];simp);have ah:i<gs.size:=(bk.1 ac).1;rw[U]at ag
 have hh:mc (t++#[{g:=0,fn,pos,act:=.recvClosed J.c}]):=h.hears.append λop O=>by simp at O;subst O;simp
 have hrel:=λj x hj hx=>(h.at_ j x hj hx).rely (λ_ _ _ _ _=>rfl) (λ_ _=>rfl) (cW _) q? λop O _=>hu op O
 refine⟨h.main,λj x ad hx=>?_,λj hj=>?_,λj m' W=>h.d0 j m' (by rw[<-kr];exact W),λj k m1 m2 ab Y h2=>h.dd j k m1 m2 ab (by rw[<-kr];exact Y) (by rw[<-kr];exact h2),λj k J1 J2 ab Y h2=>h.cc j k J1 J2 ab (by rw[<-kj];exact Y) (by rw[<-kj];exact h2),h.s0.mute hu,λj m' W=>(h.ss j m' (by rw[<-kl];exact W)).mute hu,λj J' aa p a ha hb=>?_,λp a b ha hb=>?_,hh,?_,λsaid=>by
  have:=su (u:=[{g:=0,fn,pos,act:=.recvClosed _}]) (by simpa using hu) (h.clean said)
  simpa using this,h.fix,h.f0,λj m' W=>h.ff j m' (by rw[<-kr];exact W),λj J' aa=>h.cx j J' (by rw[<-kj];exact aa),h.sz,h.os,h.kn.app (λj m' r b W hx=>⟨j,m',r,by rw[kr];exact W,hx⟩) (λop O a b ha _ _=>by rw[hu op O]at ha;cases ha),h.pd.app kj (λ_ _ _=>rfl) (λop O a c ha _ _=>by rw[hu op O]at ha;cases ha),h.len.same kj⟩
 rw[af j ad]at hx;have:=hrel j x ad hx;by_cases e:j=i;subst e;rw[cH];rw[U]at this;exact this;rw[cI _ _ e];exact this;rw[cI _ _ (by obtain x|x:=hj<;>omega)];exact h.out j (by rw[<-ae];exact hj);rw[kc]at aa;obtain⟨_,Y⟩|⟨op,Y,_,h3⟩:=eI ha
 exact h.Ny j J' aa p a Y hb;rw[hu op Y]at h3;cases h3;obtain⟨_,Y⟩|⟨op,Y,_,h3⟩:=eI ha
 exact h.low p a b Y hb;rw[hu op Y]at h3;cases h3;obtain⟨_,_,_,_,_,pc,y,g1,g2,g3,g4⟩:=hrel i gi o! ac |> λx=>by rw[U]at x;exact x
 have hj:=(h.lF.app (u:=#[{g:=0,fn,pos,act:=.recvClosed _}]) λop O=>.inl (hu op O)).join hh (j:=i) (r:={g:=0,fn,pos,act:=.recvClosed _}) (pr:=t.size) g1 g2 g3 i! q? q? g4;refine hj.mono λj hx=>?_;rw[cI _ _ hx.2];exact hx.1
end
end
section
open Go.Conc
open Go.ConcN (upd upd_same upd_ne)
variable {J:qK} {c n:Nat} {r:eY}
structure xL(P:P?)(a:Goroutine)(cases:Array CommCase)(chans:Nat->Option Nat)(K:Nat->Option (qK×Nat)):Prop where
 run:a.status=.running
 step:∀w,bz P true a w=.comm a cases true .select w #[]
 UO:∀w,bz P true {parked a cases .select with status:=.running} w=.comm a cases true .select w #[]
 cs:∀(k:Nat)cc,cases[k]?=some cc->∃z,cc=⟨.chan (chans k),none,z⟩
 VY:∀k k' c,k<cases.size->k'<cases.size->chans k=some c->chans k'=some c->k=k'
 own:∀k c,k<cases.size->chans k=some c->∃i J n,K i=some (J,n)/\J.c=c
 some_:∃k c,k<cases.size/\chans k=some c
 flat:∀i J n,K i=some (J,n)->∀v∈J.L,∀(m:Ren)v',VR m v v'->v'=v
section
variable {P:P?} {gu:Nat->Prop} {w0:w?} {Pd:Nat->Prop} {ρ:Nat->eY} {m:Ren} {wl:w?} {gs gs':Array Goroutine} {w w₁:w?} {t:b6} {sl:Option (Nat×Nat)} {a:Goroutine} {cases:Array CommCase} {chans:Nat->Option Nat} {K:Nat->Option (qK×Nat)}
def xL.get(h:xL P a cases chans K){k}(O:k<cases.size):∃z,cases[k]?=y? ⟨.chan (chans k),x?,z⟩:=by obtain⟨z,U⟩:=h.cs k _ (bl O);exact⟨z,by rw[bl O,U]⟩
def xL.offers(h:xL P a cases chans K){k}(hk:k<cases.size)(hc:chans k=y? c):bY (parked a cases .select) c f?=[k]:=by
 obtain⟨z,hz⟩:=h.get hk
 have O:∀m:Nat,cases.zipIdx.toList[m]?=(cases[m]?).map λx=>(x,m):=by simp
 have:=filter_map_one (id:CommCase×Nat->CommCase×Nat) (λ(W,_)=>W.send.isSome==f?&&(match W.chan with|.chan (y? r')=>r'==c|_=>f?)) _ k _ (by rw[O,hz];rfl) (by simp[hc]) (λm x hm U=>by
  rw[O]at U
  cases e:cases[m]? with
  |none=>rw[e]at U;cases U
  |some y=>
   rw[e]at U;simp only[cF,db]at U;subst U;obtain⟨z',rfl⟩:=h.cs m y e;have Y:=(bk.1 e).1
   cases aa:chans m with
   |none=>simp|some W=>
    have:W≠c:=by rintro rfl;exact hm (h.VY m k W Y hk aa hc)
    simp[this])
 simp only[List.map_id]at this;exact congrArg _ this
def xL.FY(h:xL P a cases chans K)(Y:∀k,k<cases.size->chans k≠y? c):bY (parked a cases .select) c f?=[]:=by
 have:(cases.zipIdx.toList.filter λ(O,_)=>O.send.isSome==f?&&(match O.chan with|.chan (y? r')=>r'==c|_=>f?))=[]:=by
  rw[List.filter_eq_nil_iff];rintro⟨cc,k⟩ hm;have e:=by simpa using Array.mem_zipIdx_iff_getElem?.1 (bo.1 hm)
  obtain⟨z',rfl⟩:=h.cs k cc e;have U:=(bk.1 e).1
  cases W:chans k with
  |none=>simp|some O=>
   have:O≠c:=by rintro rfl;exact Y k U W
   simp[this]
 exact congrArg _ this
def At.K2{i g}(h:At P w t i g r)(c):bY g c t?=[]\/∃J m S n v,r=.kD J m S n v/\J.c=c/\bY g c t?=[0]:=by
 cases r with
 |quit q=>exact .inl (bS (by obtain x|x:=Lv.status h<;>rw[x]<;>simp) ..)|ended O J m S q=>exact .inl (bS (by obtain x|x:=h.1.status<;>rw[x]<;>simp) ..)|act J m S n=>obtain⟨_,_,h⟩:=h;obtain⟨fr,cs,rfl,_⟩:=h.tM;exact .inl (bS (by simp[G]) ..)
 |kD J m S n v=>obtain⟨_,_,U,z,rfl,_⟩:=h;rw[ci];by_cases e:J.c=c;exact .inr ⟨_,_,_,_,_,q?,e,by rw[if_pos e]⟩;exact .inl (by rw[if_neg e])
 |start J m S k=>exact .inl (bS (by rw[h.2.2.2.2.2.2.status];simp) ..)
def eY.yQ(h:r.sum=y? (J,n)):r.tI=y? J:=by
 cases r with
 |quit q=>cases h
 |ended O U m S q=>cases O<;>first|(cases h;rfl)|cases h
 |act=>cases h;rfl
 |kD=>cases h;rfl
 |start=>cases h;rfl
def Co.ways(h:Co P gu w0 Pd ρ m wl gs w t){i}(Y:(ρ i).sum=y? (J,n))(z) :
  (∃m S v,ρ i=.kD J m S n v/\b9 w (gs.setIfInBounds 0 ph) (bV J.c z)=[.partner i 0]/\gY w J.c f?)\/(∃m S q,ρ i=.ended f? J m S q/\n=l? J.L/\b9 w (gs.setIfInBounds 0 ph) (bV J.c z)=[.closed]/\gY w J.c t?)\/(((∃m S,ρ i=.act J m S n)\/∃m S k,ρ i=.start J m S k)/\b9 w (gs.setIfInBounds 0 ph) (bV J.c z)=[]/\gY w J.c f?):=by
 obtain⟨g,hi,hg,W⟩:=h.get (i:=i) λe=>by rw[e]at Y;cases Y
 have aa:=eY.yQ Y
 have O:(∀m S n v,ρ i≠.kD J m S n v)->bF (gs.setIfInBounds 0 ph) J.c t?=[]:=by
  intro ad;refine cz λj x hx=>?_;obtain⟨_,rfl⟩|⟨hj,hx⟩:=cb gs 0 j x hx
  exact cf ..;rcases(h.at_ j x o! hx).K2 _ with e|⟨J',m',S',n',v',e,ec,_⟩
  exact e;by_cases ac:j=i;subst ac;rw[e]at aa;cases aa;exact absurd e (ad _ _ _ _);exact absurd ec.symm (h.cc i j J J' (ga ac) aa (by rw[e];rfl))
 cases U:ρ i with
 |quit q=>rw[U]at Y;cases Y
 |ended hd J' m' S q=>
  rw[U]at Y W
  cases hd with
  |true=>cases Y
  |false=>cases Y;obtain⟨_,_,_,_,⟨s,r,hc⟩,_⟩:=W;refine .inr (.inl ⟨m',S,q,q?,q?,?_,s,r,hc⟩);simp[b9,bV,hc,O (by rw[U];simp)]
 |act J' m' S n'=>rw[U]at Y W;cases Y;obtain⟨_,⟨s,r,hc⟩,_⟩:=W;refine .inr (.inr ⟨.inl ⟨m',S,q?⟩,?_,s,r,hc⟩);simp[b9,bV,hc,O (by rw[U];simp)]
 |start J' m' S k=>rw[U]at Y W;cases Y;obtain⟨_,⟨s,r,hc⟩,_⟩:=W;refine .inr (.inr ⟨.inr ⟨m',S,k,q?⟩,?_,s,r,hc⟩);simp[b9,bV,hc,O (by rw[U];simp)]
 |kD J' m' S n' v=>
  rw[U]at Y;cases Y;have ab:=W;rw[U]at ab;obtain⟨_,⟨s,r,hc⟩,g0,z0,rfl,_⟩:=ab;refine .inl ⟨m',S,v,q?,?_,s,r,hc⟩
  have hp:bF (gs.setIfInBounds 0 ph) J.c t?=[(i,0)]:=by
   rw[cy (j:=i) (g:=parked g0 ..) (by rw[bj o!];exact hg) λj x hj hx=>?_];rw[ci,if_pos rfl];rfl;obtain⟨_,rfl⟩|⟨ae,hx⟩:=cb gs 0 j x hx
   exact cf ..;rcases(h.at_ j x o! hx).K2 _ with e|⟨J2,m2,S2,n2,v2,e,ec,_⟩
   exact e;exact absurd ec.symm (h.cc i j J J2 (ga hj) aa (by rw[e];rfl))
  simp[b9,bV,hc,hp]
def yB{i k cap s r buf tm v z g tU es}(hi:gs[i]?=y? g)(h:bz P (i==0) g w=.comm tU #[ca c v z] t? .send w₁ es)(hc:w₁.1[c]?=y? (.chan cap buf f? s r tm))(ac:0<i)(h0:gs[0]?=y? (parked a cases .select))(hp:bF (gs.setIfInBounds i ph) c f?=[(0,k)])(hk:∃cc,cases[k]?=y? cc/\cc.send=x?) :
  bO P (bW gs w sl) i=(.next (bW ((gs.setIfInBounds 0 (a.finishComm P cases .select k v t?)).setIfInBounds i (bU tU gz)) {w₁ with heap:=w₁.1.setIfInBounds c (.chan cap buf f? (s+1) (r+1) tm)} sl),
   da i g.frame.fn g.frame.place es++[({g:=i,fn:=tU.frame.fn,pos:=tU.frame.place,act:=.send c s}),{g:=0,fn:=a.frame.fn,pos:=a.frame.place,act:=.recv c r cap},{g:=i,fn:=tU.frame.fn,pos:=tU.frame.place,act:=.sendDone c s},{g:=0,fn:=a.frame.fn,pos:=a.frame.place,act:=.recvDone c r}].toArray):=by
 rw[ct hi h];have U:(0)≠i:=o!;have O:=stand_get (i:=i) U h0;have W:=cr P _ O (cs:=cases) (sh:=.select) q? k v;have Y:(gs.setIfInBounds i ph).getD 0 default=parked a cases .select:=by rw[br,O];rfl
 obtain⟨cc,aa,ab⟩:=hk;simp[b4,b9,ca,hc,hp,choose,gv,gm,bind,gx,pure,bW,W,Y,set_stand2,finishComm_parked,aa,ab,parked];rfl
end
end
section
open Go.Conc
open Go.ConcN (upd upd_same upd_ne)
variable {f f':bD} {c cap r s:Nat} {p p':String}
section
variable {P:P?} {gu:Nat->Prop} {w0:w?} {Pd:Nat->Prop} {m:Ren} {wl:w?} {a:Goroutine} {cases:Array CommCase} {chans:Nat->Option Nat} {K:Nat->Option (qK×Nat)}
def Oi{ρ:Nat->eY}{i r x}(O:∀j,(ρ j).sum=K j)(U:r.sum=x)(j):(cJ ρ i r j).sum=cJ K i x j:=by by_cases e:j=i;subst e;rw[cH,cH];exact U;rw[cI _ _ e,cI _ _ e];exact O j
def BJ{i}:∀op∈([{g:=i,fn:=f,pos:=p,act:=.send c s},{g:=0,fn:=f',pos:=p',act:=.recv c r cap},{g:=i,fn:=f,pos:=p,act:=.sendDone c s},{g:=0,fn:=f',pos:=p',act:=.recvDone c r}]:List MemOp),op.act.touch?=x?:=by intro op O;simp only[cK,cL,or_false]at O;obtain rfl|rfl|rfl|rfl:=O<;>rfl
def zA{i}:∀op∈([{g:=i,fn:=f,pos:=p,act:=.send c s},{g:=0,fn:=f',pos:=p',act:=.recv c r cap},{g:=i,fn:=f,pos:=p,act:=.sendDone c s},{g:=0,fn:=f',pos:=p',act:=.recvDone c r}]:List MemOp),op.act≠.mark .disable/\op.act≠.mark .enable:=by intro op O;simp only[cK,cL,or_false]at O;obtain rfl|rfl|rfl|rfl:=O<;>simp
def Qd(ρ:Nat->eY)(cases:Array CommCase)(chans:Nat->Option Nat)(K:Nat->Option (qK×Nat)):Prop:=
 ∀k c,k<cases.size->chans k=y? c->∃i J n,K i=y? (J,n)/\J.c=c/\((∃m S,ρ i=.act J m S n)\/∃m S k,ρ i=.start J m S k)
def select{Z:mE P}{N}(hS:xL P a cases chans K)
  (hv:∀(k i)J n v,k<cases.size->chans k=y? J.c->K i=y? (J,n)->J.L[n]?=y? v->∀ρ gs w sl t,Co P gu w0 Pd ρ m wl gs w t->(∀j,(ρ j).sum=cJ K i (y? (J,n+1)) j)->gs[0]?=y? (a.finishComm P cases .select k v t?)->gs.size=N->Z.Up (bW gs w sl) t)
  (he:∀(k i)J z,cases[k]?=y? (bV J.c z)->chans k=y? J.c->K i=y? (J,l? J.L)->∀ρ gs w sl t,Co P gu w0 Pd ρ m wl gs w t->(∀j,(ρ j).sum=cJ K i x? j)->gs[0]?=y? (a.finishComm P cases .select k z f?)->gs.size=N->Z.Up (bW gs w sl) t) :
  ∀ρ gs w sl t,Co P gu w0 Pd ρ m wl gs w t->(∀j,(ρ j).sum=K j)->gs[0]?=y? a->gs.size=N->Z.Up (bW gs w sl) t:=by
 have key:∀ρ,Acc (I3 (jA P) N) ρ->∀gs w sl t,Co P gu w0 Pd ρ m wl gs w t->(∀j,(ρ j).sum=K j)->gs.size=N->((∃a',gs[0]?=y? a'/\a'.status=.running/\∀w,bz P t? a' w=.comm a cases t? .select w #[])\/(gs[0]?=y? (parked a cases .select)/\Qd ρ cases chans K))->Z.Up (bW gs w sl) t:=by
  intro ρ aK;induction aK with
  |intro ρ _ ih=>
   have hB:∀gs w sl t,Co P gu w0 Pd ρ m wl gs w t->(∀j,(ρ j).sum=K j)->gs.size=N->gs[0]?=y? (parked a cases .select)->Qd ρ cases chans K->Z.Up (bW gs w sl) t:=by
    intro gs w sl t h hK hN h0 hW
    have av:∃(i:Nat)(g:Goroutine),gs[i]?=y? g/\g.status=.running:=by
     obtain⟨k,c,W,hc⟩:=hS.some_;obtain⟨i,J,n,U,_,hr⟩:=hW k c W hc;obtain⟨g,hi,hg,ad⟩:=h.get (i:=i) λe=>by obtain⟨_,_,x⟩|⟨_,_,_,x⟩:=hr<;>rw[e]at x<;>cases x
     refine⟨i,g,hg,?_⟩;obtain⟨_,_,x⟩|⟨_,_,_,x⟩:=hr
     rw[x]at ad;obtain⟨_,_,ad⟩:=ad;obtain⟨fr,cs,rfl,_⟩:=ad.tM;rfl;rw[x]at ad;exact ad.2.2.2.2.2.2.status
    obtain⟨i,g,d,ae,hi,hg,ay⟩:=cn (P:=P) (w:=w) (sl:=sl) (h.awake h0 (.inr (.inl q?))) av;refine Z.back _ _ ?_;rw[ay]
    have ab:0<i:=by
     obtain rfl|ab:=cY i
     rw[h0]at hi;cases hi;cases hg;exact ab
    have aT:(i==0)=f?:=j!;have al:i<gs.size:=(bk.1 hi).1;have O:=h.at d;by_cases az:∃J mi S n g₁ cs w₁ es,ρ i=.act J mi S n/\bz P f? g (w.at d)=.comm g₁ cs t? .send w₁ es/\bY (parked a cases .select) J.c f?≠[];obtain⟨J,mi,S,n,g₁,cs,w₁,es,ac,ao,aU⟩:=az;have ad:=O.at_ i g ab hi;rw[ac]at ad;obtain⟨aw,⟨s,r,hc⟩,a6⟩:=ad
    have aL:¬J.Stop S:=by intro a9;obtain⟨hn,fr,ps,a',ty,cs',rfl,hm,hd,hq,bf⟩:=a6.stands aw a9;rw[closing (P:=P) (ps:=ps) hm hd hq hc]at ao;cases ao
    have aM:=a6.Ce aw aL;rw[ao]at aM
    cases aM with
    |@send S' dA _ _ _ v' z' bg aV af W aW=>
     have a0:(ρ i).live=y? mi:=by rw[ac];rfl
     obtain⟨bh,aX⟩:=O.wr (eY.pb a0);have ap:=W.chan aX hc
     obtain⟨k,aA,aN⟩:∃k,k<cases.size/\chans k=y? J.c:=by apply de;intro aq;exact aU (hS.FY λk W hc=>aq ⟨k,W,hc⟩)
     obtain⟨zk,ag⟩:=hS.get aA
     have hp:bF (gs.setIfInBounds i ph) J.c f?=[(0,k)]:=by
      rw[cy (j:=0) (g:=parked a cases .select) (by rw[bj o!];exact h0) λj x hj hx=>?_];rw[hS.offers aA aN];rfl;obtain⟨_,rfl⟩|⟨_,hx⟩:=cb gs i j x hx
      exact cf _ _;exact(O.at_ j x o! hx).offers J.c
     have ar:=yB (P:=P) (sl:=ae) hi (by rw[aT];exact ao) ap ab h0 hp ⟨_,ag,q?⟩;rw[ar];refine Z.next _ _ _ _ ?_;obtain⟨v0,fr',cs',e,aO⟩:=af.tM;obtain⟨f0,bi,_,_,_,_,_,_,_,aY,_⟩:=aO.tM
     have h1:Co P gu w0 Pd (cJ ρ i (.kD J dA S' n v')) m wl (gs.setIfInBounds i (parked g₁ #[ca J.c v' z'] .send)) w₁ (t++da i g.frame.fn g.frame.place es):=
      O.step (gs':=gs.setIfInBounds i (parked g₁ #[ca J.c v' z'] .send)) ab al a0 aV W aW aY ⟨aw,⟨s,r,ap⟩,g₁,z',q?,af⟩ q? (by rw[ac];rfl) (by rw[ac];rfl) (by rw[ac];rfl) i! (by simp[al]) (zr _)
     obtain⟨aZ,h2⟩:=h1.Vo (gs':=(gs.setIfInBounds 0 (a.finishComm P cases .select k v' t?)).setIfInBounds i (bU g₁ gz)) (g₁:=g₁) (z:=z') (u:=[({g:=i,fn:=g₁.frame.fn,pos:=g₁.frame.place,act:=.send J.c s}:MemOp),{g:=0,fn:=a.frame.fn,pos:=a.frame.place,act:=.recv J.c r 0},{g:=i,fn:=g₁.frame.fn,pos:=g₁.frame.place,act:=.sendDone J.c s},{g:=0,fn:=a.frame.fn,pos:=a.frame.place,act:=.recvDone J.c r}]) ab (cH _ _ _) (by simp[al]) ap (s':=s+1) (r':=r+1) q? BJ zA i! (by simp[al]) (λj hj a5=>by rw[bj (ga a5),bj o!,bj (ga a5)])
     obtain⟨v1,aP,aB⟩:=af.value aw;have U:K i=y? (J,n):=by rw[<-hK i,ac];rfl
     have ev:v'=v1:=hS.flat i J n U v1 (cT aP) _ _ aB;subst ev;rw[<-Array.append_assoc];refine hv k i J n v' aA aN U aP _ _ _ ae _ h2 (λj=>?_) (by rw[bj o!,bq o!]) (by simp[hN]);by_cases ej:j=i;subst ej;rw[cH,cH];rfl;rw[cI _ _ ej,cI _ _ ej,cI _ _ ej];exact hK j
    obtain⟨gs',w',ops,ρ',hr,ai,aC,aj,aD,hz,ba,aE⟩:=O.other (sl:=ae) ab hi hg h0 λJ mi S n g₁ cs w₁ es h1 h2=>de λh3=>az ⟨J,mi,S,n,g₁,cs,w₁,es,h1,h2,h3⟩;rw[hr];refine Z.next _ _ _ _ (ih ρ' (hN▸aC) gs' w' ae (t++ops) ai (λj=>(aj j).trans (hK j)) (aD.trans hN) ?_)
    have a7:(∀k c,k<cases.size->chans k=y? c->¬gY w' c t?)->Qd ρ' cases chans K:=by
     intro ak k c W hc;obtain⟨Y,J,n,U,aa,aF⟩:=hW k c W hc;refine⟨Y,J,n,U,aa,?_⟩;obtain⟨m1,S1,v1,e,_⟩|⟨m1,S1,q1,e,_,_,lg⟩|⟨e,_⟩:=ai.ways (i:=Y) (J:=J) (n:=n) ((aj Y).trans ((hK Y).trans U)) gz
     by_cases ei:Y=i;subst ei;have:=ba J m1 S1 n v1 e;rw[aa,hS.offers W hc]at this;cases this;rw[aE Y ei]at e;obtain⟨_,_,x⟩|⟨_,_,_,x⟩:=aF<;>rw[e]at x<;>cases x
     exact absurd (aa▸lg) (ak k c W hc);exact e
    have a1:(∀j,(ρ' j).chan=(ρ j).chan)->∀k c,k<cases.size->chans k=y? c->¬gY w' c t?:=by
     intro ax k c W hc lg;obtain⟨Y,J,n,U,aa,aF⟩:=hW k c W hc
     have aQ:(ρ' Y).chan=y? J:=by rw[ax];obtain⟨_,_,x⟩|⟨_,_,_,x⟩:=aF<;>rw[x]<;>rfl
     obtain⟨s1,r1,lg⟩:=lg;obtain⟨m1,S1,v1,e,_,s2,r2,hx⟩|⟨m1,S1,q1,e,_,_,_⟩|⟨e,_,s2,r2,hx⟩:=ai.ways (i:=Y) (J:=J) (n:=n) ((aj Y).trans ((hK Y).trans U)) gz
     rw[aa,lg]at hx;cases hx;rw[e]at aQ;cases aQ;rw[aa,lg]at hx;cases hx
    obtain⟨hx,ax⟩|hx:=hz
    exact .inr ⟨hx,a7 (a1 ax)⟩;by_cases lg:∃k c,k<cases.size/\chans k=y? c/\gY w' c t?;obtain⟨k,c,W,hc,s1,r1,lg⟩:=lg;refine .inl ⟨{parked a cases .select with status:=.running},?_,rfl,hS.UO⟩;rw[hx];obtain⟨zk,ag⟩:=hS.get W;rw[hc]at ag
    have a2:(cases.any λc:CommCase=>match c.chan with
      |.chan (y? r)=>(w'.1[r]? matches y? (.chan _ _ t? ..))
      |_=>f?)=t?:=by
     rw[Array.any_eq_true];refine⟨k,W,?_⟩
     have:cases[k]=⟨.chan (y? c),x?,zk⟩:=by rw[bl W]at ag;exact dc ag
     simp[this,lg]
    unfold fk;simp only[parked];exact congrArg y? (if_pos a2);have ak:∀k c,k<cases.size->chans k=y? c->¬gY w' c t?:=λk c W hc hx=>lg ⟨k,c,W,hc,hx⟩;refine .inr ⟨?_,a7 ak⟩;rw[hx]
    have a2:(cases.any λc:CommCase=>match c.chan with
      |.chan (y? r)=>(w'.1[r]? matches y? (.chan _ _ t? ..))
      |_=>f?)=f?:=by
     rw[Array.any_eq_false];intro k W;obtain⟨zk,ag⟩:=hS.get W
     have e:cases[k]=⟨.chan (chans k),x?,zk⟩:=by rw[bl W]at ag;exact dc ag
     cases am:chans k with
     |none=>rw[am]at e;simp[e]|some c=>
      rw[am]at e;obtain⟨Y,J,n,U,aa⟩:=hS.own k c W am;have no:=ak k c W am;obtain⟨_,_,_,_,_,s2,r2,hx⟩|⟨_,_,_,_,_,_,hx⟩|⟨_,_,s2,r2,hx⟩:=ai.ways (i:=Y) (J:=J) (n:=n) ((aj Y).trans ((hK Y).trans U)) gz
      rw[aa]at hx;simp[e,hx];exact absurd (aa▸hx) no;rw[aa]at hx;simp[e,hx]
    unfold fk;simp only[parked];exact congrArg y? (if_neg (by rw[dB];exact a2))
   intro gs w sl t h hK hN ay;obtain⟨a',h0,an,a3⟩|⟨h0,hW⟩:=ay
   obtain⟨i,g,d,ae,hi,hg,ay⟩:=cn (P:=P) (w:=w) (sl:=sl) (h.awake h0 (.inl an)) ⟨0,a',h0,an⟩;refine Z.back _ _ ?_;rw[ay];have O:=h.at d;obtain rfl|ab:=cY i
   obtain rfl:g=a':=by rw[h0]at hi;exact(dc hi).symm
   have al:0<gs.size:=(bk.1 hi).1;have ao:bz P (0==0) g (w.at d)=.comm a cases t? .select (w.at d) #[]:=a3 (w.at d);have e0:da 0 g.frame.fn g.frame.place #[]=#[]:=by rw[bZ];simp
   have made:∀cc∈cases,c7 (w.at d) cc=f?:=by
    intro cc ah;obtain⟨k,W,rfl⟩:=bn.1 ah;obtain⟨z,hz⟩:=hS.cs k cases[k] (bl W);rw[hz]
    cases am:chans k with
    |none=>rfl|some c=>obtain⟨Y,J,n,U,aa⟩:=hS.own k c W am;obtain⟨cl,s,r,hx⟩:=O.is (eY.yQ ((hK Y).trans U));rw[aa]at hx;simp[c7,hx]
   have one:∀(k:Nat)cc,cases[k]?=y? cc->(b9 (w.at d) (gs.setIfInBounds 0 ph) cc=[])\/∃i J n,chans k=y? J.c/\K i=y? (J,n)/\(∃z,cc=bV J.c z)/\((∃m S v,ρ i=.kD J m S n v/\b9 (w.at d) (gs.setIfInBounds 0 ph) cc=[.partner i 0]/\gY (w.at d) J.c f?)\/(∃m S q,ρ i=.ended f? J m S q/\n=l? J.L/\b9 (w.at d) (gs.setIfInBounds 0 ph) cc=[.closed]/\gY (w.at d) J.c t?)):=by
    intro k cc ah;have W:k<cases.size:=(bk.1 ah).1;obtain⟨z,rfl⟩:=hS.cs k cc ah
    cases am:chans k with
    |none=>exact .inl rfl|some c=>
     obtain⟨Y,J,n,U,aa⟩:=hS.own k c W am;subst aa;obtain⟨m1,S1,v1,x1,x2,x3⟩|⟨m1,S1,q1,x1,x2,x3,x4⟩|⟨_,x2,_⟩:=O.ways ((hK Y).trans U) z
     exact .inr ⟨Y,J,n,q?,U,⟨z,q?⟩,.inl ⟨m1,S1,v1,x1,x2,x3⟩⟩;exact .inr ⟨Y,J,n,q?,U,⟨z,q?⟩,.inr ⟨m1,S1,q1,x1,x2,x3,x4⟩⟩;exact .inl x2
   by_cases au:∃(k:Nat)(cc:CommCase),cases[k]?=y? cc/\b9 (w.at d) (gs.setIfInBounds 0 ph) cc≠[]
   rcases BC (P:=P) (sl:=ae) hi ao made (λk cc ah=>by
    obtain x|⟨Y,J,n,_,_,⟨z,rfl⟩,⟨m1,S1,v1,_,x2,s,r,x3⟩|⟨m1,S1,q1,_,_,x3,s,r,x4⟩⟩:=one k cc ah
    exact .inl x;exact .inr (.inr ⟨J.c,z,_,_,_,_,_,_,_,_,q?,x3,x2⟩)
    exact .inr (.inl ⟨J.c,z,_,_,_,_,_,q?,x4,x3⟩)) au with⟨k,c,z,d',W,hw,ar⟩|⟨k,c,z,d',j,q,cap,s,r,buf,cl,tm,W,ax,hw,ar⟩
   obtain x|⟨Y,J,n,aG,U,⟨z',ez⟩,⟨m1,S1,v1,_,x2,_⟩|⟨m1,S1,q1,ac,hn,_,_⟩⟩:=one k _ W
   rw[x]at hw;cases hw;rw[x2]at hw;cases hw;have ec:c=J.c:=by simp[bV]at ez;exact ez.1
   subst ec
   have aH:0<Y:=by obtain⟨_,x,_,_⟩:=O.get (i:=Y) (by rw[ac];simp);exact x
   rw[ar,e0,bs];refine Z.next _ _ _ _ ?_;have hh:=(O.at d').hear (gs':=gs.setIfInBounds 0 (a.finishComm P cases .select k z f?)) (fn:=a.frame.fn) (pos:=a.frame.place) aH ac i! (λj hj=>bj o!);subst hn;exact he k Y J z W aG U _ _ _ ae _ hh (Oi hK q?) (by simp[al]) (u! hN);obtain x|⟨Y,J,n,aG,U,⟨z',ez⟩,⟨m1,S1,v1,ac,x2,s2,r2,hx⟩|⟨m1,S1,q1,ac,hn,x2,_⟩⟩:=one k _ W
   rw[x]at hw;cases hw;have ec:c=J.c:=by simp[bV]at ez;exact ez.1
   subst ec;rw[x2]at hw;obtain⟨rfl,rfl⟩:Y=j/\0=q:=by simpa using hw
   have a8:(w.at d).1[J.c]?=y? (.chan 0 #[] f? s2 r2 f?):=hx;rw[a8]at ax;cases ax;obtain⟨gi,aH,aI,ad⟩:=O.get (i:=Y) (by rw[ac];simp);rw[ac]at ad;obtain⟨aw,_,g0,z0,rfl,af⟩:=ad;have aJ:(gs.setIfInBounds 0 ph)[Y]?=y? (parked g0 #[ca J.c v1 z0] .send):=by rw[bj o!];exact aI
   have bc:bM (gs.setIfInBounds 0 ph) Y 0=v1:=by simp[bM,aJ,parked,ca]
   have bd:=cr P (gs.setIfInBounds 0 ph) aJ (cs:=#[ca J.c v1 z0]) (sh:=.send) q? 0 gz;have be:(gs.setIfInBounds 0 ph).getD Y default=parked g0 #[ca J.c v1 z0] .send:=by rw[br,aJ];rfl
   rw[ar,e0,bs,bc,bd,be];refine Z.next _ _ _ _ ?_;obtain⟨v2,aR,aB⟩:=af.value aw;have ev:v1=v2:=hS.flat Y J n U v2 (cT aR) _ _ aB;subst ev
   obtain⟨aZ,hh⟩:=(O.at d').Vo (gs':=(((gs.setIfInBounds 0 ph).setIfInBounds Y ((parked g0 #[ca J.c v1 z0] .send).finishComm P #[ca J.c v1 z0] .send (0:Nat) gz (((#[ca J.c v1 z0]:Array CommCase)[0]?.map (·.send.isNone)).getD f?))).setIfInBounds 0 (a.finishComm P cases .select k v1 t?))) (g₁:=g0) (z:=z0) (u:=[({g:=Y,fn:=g0.frame.fn,pos:=g0.frame.place,act:=.send J.c s}:MemOp),{g:=0,fn:=a.frame.fn,pos:=a.frame.place,act:=.recv J.c r 0},{g:=Y,fn:=g0.frame.fn,pos:=g0.frame.place,act:=.sendDone J.c s},{g:=0,fn:=a.frame.fn,pos:=a.frame.place,act:=.recvDone J.c r}]) aH ac aI a8 (s':=s+1) (r':=r+1) q? BJ zA i! (by
    rw[bj o!,bq (by simpa using(bk.1 aI).1)]
    rfl) (λj hj a5=>by
    rw[bj o!,bj (ga a5),bj o!])
   exact hv k Y J n v1 (bk.1 W).1 aG U aR _ _ _ ae _ hh (Oi hK q?) (by simp[al]) (u! hN);rw[x2]at hw;cases hw;have a4:∀(k:Nat)cc,cases[k]?=y? cc->b9 (w.at d) (gs.setIfInBounds 0 ph) cc=[]:=λk cc ah=>de λhx=>au ⟨k,cc,ah,hx⟩
   have ar:=c8 (P:=P) (sl:=ae) hi ao (λcc ah=>by
    obtain⟨k,W,rfl⟩:=bn.1 ah
    exact⟨made _ (Array.getElem_mem W),a4 k _ (bl W)⟩)
   rw[ar];refine Z.next _ _ _ _ ?_
   have aS:Co P gu w0 Pd ρ m wl (gs.setIfInBounds 0 (parked a cases .select)) (w.at d) t:=by refine⟨O.main,λi g hi hg=>O.at_ i g hi (by rw[bj o!]at hg;exact hg),λi hi=>O.out i (u! hi),O.d0,O.dd,O.cc,O.s0,O.ss,O.Ny,O.low,O.hears,O.lF,O.clean,O.fix,O.f0,O.ff,O.cx,O.sz,O.os,O.kn,O.pd,O.len⟩
   refine hB _ _ _ _ aS hK (u! hN) (by simp[al]) λk c W hc=>?_;obtain⟨Y,J,n,U,aa⟩:=hS.own k c W hc;refine⟨Y,J,n,U,aa,?_⟩;obtain⟨zk,ag⟩:=hS.get W;have aq:=a4 k _ ag;rw[hc,<-aa]at aq;obtain⟨_,_,_,_,x2,_⟩|⟨_,_,_,_,_,x3,_⟩|⟨x,_⟩:=O.ways ((hK Y).trans U) zk
   rw[show(⟨.chan (y? J.c),x?,zk⟩)=bV _ zk from rfl,x2]at aq;cases aq;rw[show(⟨.chan (y? J.c),x?,zk⟩)=bV _ zk from rfl,x3]at aq;cases aq;exact x;obtain⟨gs',w',ops,ρ',hr,ai,aC,aj,aD,hz,_,_⟩:=O.other (sl:=ae) ab hi hg h0 λJ mi S n _ _ _ _ _ _=>bS (by rw[an];simp) ..;rw[hr];refine Z.next _ _ _ _ (ih ρ' (hN▸aC) gs' w' ae _ ai (λj=>(aj j).trans (hK j)) (aD.trans hN) (.inl ⟨a',?_,an,a3⟩));obtain⟨x,_⟩|x:=hz
   exact x;rw[x,cv _ (.inl an)];exact hB gs w sl t h hK hN h0 hW
 intro ρ gs w sl t h hK h0 hN;exact key ρ (hN▸h.acc) gs w sl t h hK hN (.inl ⟨a,h0,hS.run,hS.step⟩)
end
end
section
open Go.Conc
open Go.ConcN (upd upd_same upd_ne)
variable {V:List (Nat×Option (List v?))}
section
variable {P:P?} {gu:Nat->Prop} {w0:w?} {Pd:Nat->Prop} {ρ:Nat->eY} {m dA:Ren} {wl rW:w?} {gs gs':Array Goroutine} {w w₁:w?} {t:b6} {sl:Option (Nat×Nat)}
def Co.ym{fn pos es}(h:Co P gu w0 Pd ρ m wl gs w t)(ac:m.Le dA)(hk:gw m dA w w₁)(he:∀e∈es,qd dA e)(U:WR dA rW w₁)(ag:gs'.size=gs.size)
  (ah:∀j x,0<j->gs'[j]?=y? x->∃y,gs[j]?=y? y/\(At P w₁ (t++da 0 fn pos es) j y (ρ j)->x=y)) :
  Co P gu w0 Pd ρ dA rW gs' w₁ (t++da 0 fn pos es):=by
 have dj:∀j m',(ρ j).oc=y? m'->pB dA m':=λj m' O=>by obtain⟨wl',ai⟩:=h.wr O;exact pB.grow (h.d0 j m' O) ac hk ai
 have W:∀c cl,gY w c cl->w₁.1[c]?=w.1[c]?:=λc cl x=>hk.Q7 h.main x
 have hrel:∀j y,0<j->gs[j]?=y? y->At P w₁ (t++da 0 fn pos es) j y (ρ j):=by intro j y hj hy;refine(h.at_ j y hj hy).rely (λm' O=>hk.leaves (h.d0 j m' O) (h.wr O).choose_spec) (λJ hJ=>?_) hk.size hk.os λop aa hg=>absurd (ofEvents_g aa) o!;obtain⟨cl,Y⟩:=h.is hJ;exact W _ cl Y
 have ab:=h.s0.grow ac h.low hk.news;refine⟨U,λj x af Y=>?_,λj hj=>h.out j (by rw[<-ag];exact hj),dj,h.dd,h.cc,ab.own,λj m' O=>(h.ss j m' O).other (dj j m' (eY.pb O)).symm he,λj J hJ p a ha hb=>?_,h.low.own U hk.size he,CC h.hears he,h.lF.app λop aa=>.inr (.inl (ofEvents_g aa)),ab.clean h.clean he,λb hb=>?_,λr b aj hb=>?_,h.ff,h.cx,cX h.sz hk.size,⟨hk.os.trans h.os.1,hk.output.trans h.os.2⟩,h.kn.app (λj m' r b O Y=>⟨j,m',r,O,Y⟩) (λop aa _ _ _ _ _=>.inl (ofEvents_g aa)),h.pd.app (λ_=>rfl) (λc _ ad=>W c _ ad) (λop aa a c ha _ ad hb=>?_),h.len⟩;obtain⟨y,hy,ak⟩:=ah j x af Y;have:=hrel j y af hy;rw[ak this];exact this;obtain⟨_,h1⟩|⟨op,h1,_,h3⟩:=eI ha
 exact h.Ny j J hJ p a h1 hb;obtain⟨e,ae,rfl⟩:=bR h1
 have hm:a.loc.isMemory=t?:=by cases hl:a.loc<;>rw[hl]at hb<;>simp[mC]at hb<;>rfl
 obtain⟨b',r',g1,g2,g3⟩:=nu (he e ae) h3 hm;rw[hb]at g1;cases g1;obtain⟨cl,s,y,Y⟩:=h.is (eY.vf hJ);have:gY w₁ _ cl:=⟨s,y,by rw[W _ cl ⟨s,y,Y⟩];exact Y⟩;exact U.z8 this g2;obtain⟨h1,h2⟩:=h.fix b hb;refine⟨cV h1 hk.size,?_⟩;rw[<-h2];by_cases Y:∃r,m.blk r=y? b;obtain⟨r,Y⟩:=Y;exact hk.still r b Y (h.f0 r b Y hb);exact hk.old b h1 λr al=>Y ⟨r,al⟩;obtain x|x:=hk.news r b aj
 exact(ac.loose r b x).2 (h.f0 r b x hb);have:=(h.fix b hb).1;omega;obtain⟨e,ae,rfl⟩:=bR aa
 have hm:a.loc.isMemory=t?:=by cases hl:a.loc<;>rw[hl]at hb<;>simp[mC]at hb<;>rfl
 obtain⟨b',r',g1,g2,g3⟩:=nu (he e ae) ha hm;rw[hb]at g1;cases g1;obtain⟨s,y,Y⟩:=ad;exact U.z8 (cl:=f?) ⟨s,y,by rw[W _ f? ⟨s,y,Y⟩];exact Y⟩ g2
def Co.calm(h:Co P gu w0 Pd ρ m wl gs w t)(O:∀i,(ρ i).sum=x?)(m'):oG t 0 m':=by
 intro p a b r U hb _ _
 have hm:a.loc.isMemory=t?:=by cases W:a.loc<;>rw[W]at hb<;>simp[mC]at hb<;>rfl
 obtain x|⟨op,_,x⟩:=h.lF p a U hm
 exact x;exact absurd (O _) x
def ir{g g' u}(w₁):∀j x,0<j->((gs.map (woken P g g' w₁)).setIfInBounds 0 g')[j]?=y? x->∃y,gs[j]?=y? y/\(At P w₁ u j y (ρ j)->x=y):=by intro j x W O;rw[bj o!,bu]at O;obtain⟨y,U,rfl⟩:=cE.1 O;exact⟨y,U,λh=>h.woken g g'⟩
end
structure OF where
 fn:bD
 tm:Array v?
 td:List Item
def gU(fn:bD)(tm:Array v?)(td:List Item):Frame:=⟨fn,tm,td,[],.run,.normal,x?⟩
inductive pC(m:Ren)(T:List Frame):List OF->List Frame->Prop
 |nil:pC m T [] T|cons {o os tm' l}:eP m o.tm tm'->pC m T os l->pC m T (o::os) (gU o.fn tm' o.td::l)
def pC.mono{m dA T}(h:m.Le dA){os l}(x:pC m T os l):pC dA T os l:=by
 induction x with
 |nil=>exact .nil|cons O _ U=>exact .cons (O.mono h) U
structure Env(P:P?) where
 Z:mE P
 gu:Nat->Prop
 w0:w?
 T:List Frame
 gl:Nat->Prop
 st:Bool
 gE:bD->Prop
 ok:Oper->Prop
 X:Ren->Prop
 le:∀m dA:Ren,m.Le dA->X m->X dA
structure Rg{P:P?}(E:Env P)(m:Ren):Prop where
 qR:mF P m E.gl E.st
 jf:¬m.jf
 nT:∀r r',m.ch r=some r'->m.lS r=some (.chan 0 #[] false 0 0 false)
 gE:m.gE=E.gE
 U0:m.ok=E.ok
 x:E.X m
structure Tj(m:Ren)(ρ:Nat->eY)(Pd:Nat->Prop)(V:List (Nat×Option (List v?))):Prop where
 all:∀r vs,(r,some vs)∈V->∃i J n,(ρ i).sum=some (J,n)/\m.ch r=some J.c/\n<=l? J.L/\J.L.drop n=vs/\∀v∈J.L,∀(m:Ren)v',VR m v v'->v'=v
 only:∀i J n,(ρ i).sum=some (J,n)->∃r vs,(r,some vs)∈V/\m.ch r=some J.c
 M7:∀r,(r,none)∈V->∃c,m.ch r=some c/\Pd c
section
variable {P:P?} {E:Env P}
def Rg.open{m}(h:Rg E m):Open m:=λr r' O=>⟨_,_,_,_,_,h.nT r r' O⟩
def Rg.le{m dA w w₁}(h:Rg E m)(O:m.Le dA)(U:gw m dA w w₁):Rg E dA:=
 ⟨h.qR.mono O,by rw[O.jf];exact h.jf,λr r' W=>by rw[U.nT h.jf]at W;rw[U.lS];exact h.nT r r' W,O.gE.trans h.gE,O.ok.trans h.U0,E.le m dA O h.x⟩
def Tj.le{m dA}{ρ ρ':Nat->eY}{Pd}(h:Tj m ρ Pd V)(W:m.Le dA)(hs:∀j,(ρ' j).sum=(ρ j).sum):Tj dA ρ' Pd V:=by refine⟨λr vs Y=>?_,λi J n hi=>?_,λr Y=>?_⟩;obtain⟨i,J,n,O,U,h3⟩:=h.all r vs Y;exact⟨i,J,n,by rw[hs];exact O,W.ch _ _ U,h3⟩;rw[hs]at hi;obtain⟨r,vs,O,U⟩:=h.only i J n hi;exact⟨r,vs,O,W.ch _ _ U⟩;obtain⟨c,O,U⟩:=h.M7 r Y;exact⟨c,W.ch _ _ O,U⟩
def dk(E:Env P)(os:List OF)(wl:w?)(V:List (Nat×Option (List v?))):Prop:=
 ∀m(Pd:Nat->Prop)ρ gs w sl t fr' cs',Rg E m->Co P E.gu E.w0 Pd ρ m wl gs w t->Tj m ρ Pd V->pC m E.T os (fr'::cs')->gs[0]?=y? (G fr' cs')->E.Z.Up (bW gs w sl) t
def Sk(E:Env P)(os:List OF)(wl:w?)(N:List OF->w?->Prop):Prop:=
 ∀m w fr' cs',Rg E m->pC m E.T os (fr'::cs')->WR m wl w->∃dA O U w₁ es W rW,bz P t? (G fr' cs') w=.go (G O U) w₁ es/\m.Le dA/\gw m dA w w₁/\(∀e∈es,qd dA e)/\pC dA E.T W (O::U)/\WR dA rW w₁/\N W rW
def dk.step{os wl N}(h:Sk E os wl N)(hn:∀O rW,N O rW->dk E O rW V):dk E os wl V:=by intro m Pd ρ gs w sl t fr' cs' aa ae af ab h0;refine turn (Z:=E.Z) (a:=G fr' cs') (K:=λj=>(ρ j).sum) (N:=gs.size) q? ?_ ρ gs w sl t ae (λ_=>rfl) h0 rfl;intro ρ' gs' w' aj ac d t' U hK ad hN;obtain⟨dA,W,Y,w₁,es,O,rW,hs,hl,hk,he,ho,hw,ag⟩:=h m _ fr' cs' aa ab U.main;have ah:=bT (P:=P) (sl:=ac) (i:=0) ad (show bz P .. = _ from hs);rw[ah];refine E.Z.next _ _ _ _ ?_;have ai:=(bk.1 ad).1;exact hn O rW ag dA Pd ρ' _ _ ac _ W Y (aa.le hl hk) (U.ym (gs':=(gs'.map _).setIfInBounds 0 _) hl hk he hw i! (ir _)) (af.le hl hK) ho (by simp[ai])
end
end
section
open Go.Conc
variable {ops:Array Oper} {t t':Array v?} {x y:Code} {rest:List Nat} {i id:Nat} {m:Ren}
def fq(O:Option Tmp)(tm:Array v?)(v:v?):Array v?:=match O with|some d=>tm.setIfInBounds d v|none=>tm
def kE(tm:Array v?):Operand->v?:=Act.eval ⟨tm,[]⟩
section
variable {P:P?} {E:Env P} {fn:bD} {tm:Array v?} {os:List OF} {wl:w?} {V:List (Nat×Option (List v?))} {k:List Item}
def OB(fn)(tm)(td):(gU fn tm td).eval=kE tm:=by funext x;cases x<;>rfl
def jV(fn)(tm:Array v?)(ops:Array Oper)(i)(rest:List Nat)(k:List Item)(v):(gU fn tm (r? ops (i::rest)::k)).finish v=gU fn (fq ((ops[i]?).bind (·.dst)) tm v) (r? ops rest::k):=by cases h:(ops[i]?).bind _<;>simp[ge,gU,fq,h]
def eP.fq(h:eP m t t')(d){v v'}(O:VR m v v'):eP m (Go.Proofs.YtocbogeoffeolaaGreatDoor.fq d t v) (Go.Proofs.YtocbogeoffeolaaGreatDoor.fq d t' v'):=by
 cases d with
 |none=>exact h|some d=>exact h.set d O
def Ki(h:eP m t t'){gl:Nat->Prop}(O:∀g,gl g->m.blk g=y? g)(x)(U:e9 m.gE gl x):VR m (kE t x) (kE t' x):=by
 cases x with
 |tmp i=>exact h.getD i|const v=>exact VR.plain U|global g=>exact .ptr (.mk (O g U))|func f=>exact .K6 (.func f U) (.nil m) (.nil m)
def dk.tape{τ}(h:dk E os (tp wl τ) V):dk E os wl V:=by intro m Pd ρ gs w sl t fr' cs' W O U Y h0;exact h m Pd ρ gs w sl t fr' cs' W ⟨O.main.tp τ,O.at_,O.out,O.d0,O.dd,O.cc,O.s0,O.ss,O.Ny,O.low,O.hears,O.lF,O.clean,O.fix,O.f0,O.ff,O.cx,O.sz,O.os,O.kn,O.pd,O.len⟩ U Y h0
def dk.ctl{td Li}(h:∀O cs' w,bz P t? (G (gU fn O td) cs') w=.go (G (gU fn O Li) cs') w #[])(W:dk E (⟨fn,tm,Li⟩::os) wl V):dk E (⟨fn,tm,td⟩::os) wl V:=by
 refine dk.step (N:=λo w=>o=⟨fn,tm,Li⟩::os/\w=wl) (λm w fr' cs' hr Y hw=>?_) (λo w ⟨h1,h2⟩=>by rw[h1,h2];exact W)
 cases Y with
 |@cons _ _ O l ht U=>exact⟨m,_,_,w,#[],_,wl,h O cs' w,.refl m,.refl m w,i!,.cons (o:=⟨fn,tm,Li⟩) ht U,hw,q?,q?⟩
def dk.skip(h:dk E (⟨fn,tm,k⟩::os) wl V):dk E (⟨fn,tm,.code .skip::k⟩::os) wl V:=dk.ctl (λ_ _ _=>rfl) h
def dk.seq(h:dk E (⟨fn,tm,.code x::.code y::k⟩::os) wl V):dk E (⟨fn,tm,.code (.seq x y)::k⟩::os) wl V:=dk.ctl (λ_ _ _=>rfl) h
def dk.block(h:dk E (⟨fn,tm,.code x::.inBlock id::k⟩::os) wl V):dk E (⟨fn,tm,.code (.block id x)::k⟩::os) wl V:=dk.ctl (λ_ _ _=>rfl) h
def dk.inBlock(h:dk E (⟨fn,tm,k⟩::os) wl V):dk E (⟨fn,tm,.inBlock id::k⟩::os) wl V:=dk.ctl (λ_ _ _=>rfl) h
def dk.loop(h:dk E (⟨fn,tm,.code x::.inLoop x::k⟩::os) wl V):dk E (⟨fn,tm,.code (.loop x)::k⟩::os) wl V:=dk.ctl (λ_ _ _=>rfl) h
def dk.inLoop(h:dk E (⟨fn,tm,.code x::.inLoop x::k⟩::os) wl V):dk E (⟨fn,tm,.inLoop x::k⟩::os) wl V:=dk.ctl (λ_ _ _=>rfl) h
def dk.exit{k'}(e:exitTo id k=y? k')(h:dk E (⟨fn,tm,k'⟩::os) wl V):dk E (⟨fn,tm,.code (.exit id)::k⟩::os) wl V:=
 dk.ctl (λ_ _ _=>by simp[bz,et,G,gU,e]) h
def dk.region(h:dk E (⟨fn,tm,r? ops (cU ops.size)::k⟩::os) wl V):dk E (⟨fn,tm,.code (.region id ops f?)::k⟩::os) wl V:=
 dk.ctl (λ_ _ _=>by simp[bz,et,G,gU]) h
def dk.inRegion(h:dk E (⟨fn,tm,k⟩::os) wl V):dk E (⟨fn,tm,r? ops []::k⟩::os) wl V:=dk.ctl (λ_ _ _=>rfl) h
def dk.cond{c b}(Y:wH c)(e:kE tm c=.bool b)(h:dk E (⟨fn,tm,.code (if b then x else y)::k⟩::os) wl V):dk E (⟨fn,tm,.code (.cond c x y)::k⟩::os) wl V:=by
 refine dk.step (N:=λo w=>o=⟨fn,tm,.code (if b then x else y)::k⟩::os/\w=wl) (λm w fr' cs' hr ho hw=>?_) (λo w ⟨h1,h2⟩=>by rw[h1,h2];exact h)
 cases ho with
 |@cons _ _ O l ht U=>
  refine⟨m,_,_,w,#[],_,wl,?_,.refl m,.refl m w,i!,.cons (o:=⟨fn,tm,.code (if b then x else y)::k⟩) ht U,hw,q?,q?⟩
  have hv:(gU fn O (.code (.cond c x y)::k)).eval c=.bool b:=by
   cases c with
   |tmp i=>have:=ht.getD i;have e:tm.getD i gz=.bool b:=e;rw[e]at this;generalize hq:O.getD i gz=q at this;cases this;exact hq
   |const v=>exact e|global g=>exact Y.elim|func f=>exact Y.elim
  have W:Frame.eval ⟨fn,O,.code _::k,[],.run,.normal,x?⟩ c=.bool b:=hv;simp[bz,et,G,gU,W]
def dk.SR(h:∀t,dk E (⟨fn,tm,r? ops (ek (P.follows .mixedOrders) ops t)::k⟩::os) wl V):dk E (⟨fn,tm,.code (.region id ops t?)::k⟩::os) wl V:=by
 refine dk.step (N:=λo w=>∃t,o=⟨fn,tm,r? ops (ek (P.follows .mixedOrders) ops t)::k⟩::os/\w=wl) (λm w fr' cs' hr U W=>?_) (λo w ⟨t,Y,h2⟩=>by rw[Y,h2];exact h t)
 cases U with
 |@cons _ _ aa l ht O=>
  obtain⟨t,d,e⟩:∃t d,(choose (.order fn id)).run P w=.ok t (w.at d):=by by_cases hf:(Question.order fn id).forced=t?;exact⟨0,w.drawn,by simp[choose,gv,hf,World.at]⟩;exact⟨_,w.drawn+1,l!⟩
  refine⟨m,_,_,w.at d,#[],_,wl,?_,.refl m,gw.at m w d,i!,.cons (o:=⟨fn,tm,r? ops _::k⟩) ht O,W.at d,t,q?,q?⟩;simp[bz,et,G,gU,e]
def mY{O o cs' w}(U:ops[i]?=y? o)(W:ef o (b5 ops O)=t?):bz P t? (G (gU fn O (r? ops (i::rest)::k)) cs') w=en P t? (gU fn O (r? ops (i::rest)::k)) cs' x? (bA (kE O) o) w:=by have Y:=OB fn O (r? ops (i::rest)::k);have:bz P t? (G (gU fn O (r? ops (i::rest)::k)) cs') w=et P t? t? (gU fn O (r? ops (i::rest)::k)) cs' x? w:=rfl;rw[this,<-Y];unfold et;simp only[gU,U,cF,cG,W,if_true];unfold bz.oper;simp only[Frame.oper?,U]
def dk.pass{o}(hi:ops[i]?=y? o)(Y:ef o (b5 ops tm)=f?)(h:dk E (⟨fn,fq o.dst tm gz,r? ops rest::k⟩::os) wl V):dk E (⟨fn,tm,r? ops (i::rest)::k⟩::os) wl V:=by
 refine dk.step (N:=λo w=>dk E o w V) (λm w fr' cs' hr W hw=>?_) (λo w h=>h)
 cases W with
 |@cons _ _ O l ht aa=>
  have hy:ef o (b5 ops O)=f?:=by rw[show b5 ops O=b5 ops tm from funext (mQ ops ht)];exact Y
  have U:=jV fn O ops i rest k gz;simp only[hi,cD]at U
  have ab:bz P t? (G (gU fn O (r? ops (i::rest)::k)) cs') w=.go (G (gU fn (fq o.dst O gz) (r? ops rest::k)) cs') w #[]:=by rw[<-U];have:bz P t? (G (gU fn O (r? ops (i::rest)::k)) cs') w=et P t? t? (gU fn O (r? ops (i::rest)::k)) cs' x? w:=rfl;rw[this];unfold et;simp only[gU,hi,cF,cG,hy,dt,if_false,G]
  exact⟨m,_,_,w,_,_,wl,ab,.refl m,.refl m w,i!,.cons (o:=⟨fn,fq _ tm gz,r? ops rest::k⟩) (ht.fq _ (.undef m)) aa,hw,h⟩
end
variable {S:LS} {Tc:List Frame} {w:w?}
section
variable {P:P?} {E:Env P} {fn:bD} {tm:Array v?} {os:List OF} {wl:w?} {V:List (Nat×Option (List v?))} {k:List Item}
def jQ(E:Env P)(S:LS)(os:List OF)(V:List (Nat×Option (List v?))):Prop:=
 ∀m(Pd:Nat->Prop)ρ gs w sl t fr' cs' Tc,Rg E m->Co P E.gu E.w0 Pd ρ m S.w gs w t->Tj m ρ Pd V->pC m E.T os Tc->ed P m Tc (S.fr::S.cs) (fr'::cs')->gs[0]?=y? (G fr' cs')->E.Z.Up (bW gs w sl) t
def Co.tape{gu w0 Pd ρ gs t}(O:Co P gu w0 Pd ρ m wl gs w t)(τ):Co P gu w0 Pd ρ m (tp wl τ) gs w t:=
 ⟨O.main.tp τ,O.at_,O.out,O.d0,O.dd,O.cc,O.s0,O.ss,O.Ny,O.low,O.hears,O.lF,O.clean,O.fix,O.f0,O.ff,O.cx,O.sz,O.os,O.kn,O.pd,O.len⟩
def jQ.tape{τ}(h:jQ E (S.on τ) os V):jQ E S os V:=by intro m Pd ρ gs w sl t fr' cs' Tc W Y O ho U h0;exact h m Pd ρ gs w sl t fr' cs' Tc W (Y.tape τ) O ho U h0
def Rg.tM{fr' cs'}(h:Rg E m)(O:ed P m Tc (S.fr::S.cs) (fr'::cs'))(U:WR m S.w w):xZ P E.gl E.st m Tc S fr' cs' w:=⟨h.qR,h.jf,h.open,O,U⟩
def jQ.pq{Stop}(hB:As Stop)(hH:mI P Stop S)(hn:∀S',Stop S'->jQ E S' os V):jQ E S os V:=by
 intro m Pd ρ gs w sl t fr' cs' Tc hr hc ac ho Y h0;have ae:=hH.acc hB ⟨_,_,_,_,_,_,_,hr.tM Y hc.main⟩;revert m Pd ρ gs w sl t fr' cs' Tc hH;induction ae with
 |intro S _ ih=>
  intro hH m Pd ρ gs w sl t fr' cs' Tc hr hc ac ho Y h0;by_cases O:Stop S;exact hn S O m Pd ρ gs w sl t fr' cs' Tc hr hc ac ho Y h0;refine turn (Z:=E.Z) (a:=G fr' cs') (K:=λj=>(ρ j).sum) (N:=gs.size) q? ?_ ρ gs w sl t hc (λ_=>rfl) h0 rfl;intro ρ' gs' w' ao af d t' aa hK ag hN;have ab:=hr.tM Y aa.main;have ah:=ab.V' hB hH O t?;generalize aj:bz P t? .. = sg at ah
  cases ah with
  |@go S' dA U W w₁ es hg hl ai hk he=>have ak:=bT (P:=P) (sl:=af) (i:=0) ag (show bz P .. = _ from aj);rw[ak];refine E.Z.next _ _ _ _ ?_;have al:=(bk.1 ag).1;exact ih S' hg (hH.own hB ⟨_,_,_,_,_,_,_,ab⟩ hg).2 dA Pd ρ' _ _ af _ U W Tc (hr.le hl hk) (aa.ym (gs':=(gs'.map _).setIfInBounds 0 _) hl hk he ai.world i! (ir _)) (ac.le hl hK) (ho.mono hl) ai.stack (by simp[al])
  |@send S' dA U W w₁ es r r' v v' z' hg hl hp hk he=>obtain⟨f0,ap,cap,buf,ix,an,aq,_,_,am,hx,ad⟩:=hp.tM;have:=(am.lS r _ ((hr.le hl hk).nT r r' hp.ch)).1;rw[hx]at this;cases this;simp at ad
def pC.head{T o l}(h:pC m T (o::os) l):∃O W,l=gU o.fn O o.td::W/\eP m o.tm O/\pC m T os W:=by
 cases h with
 |cons Y U=>exact⟨_,_,q?,Y,U⟩
def wF(E:Env P)(os:List OF):Prop:=os≠[]\/∀ps,E.T=[ps]->ps.mode≠.panicking [b8]
def ve(O:wF E os)(h:pC m E.T os Tc):∀ps,Tc=[ps]->ps.mode≠.panicking [b8]:=by
 cases h with
 |nil=>
  obtain x|x:=O
  exact absurd q? x;exact x
 |cons W U=>rintro ps e;cases e;simp[gU]
def jQ.ret{v ops i rest o}(hi:ops[i]?=y? o)(ao:S.cs=[door P])(hl:S.fr.leaving P S.w (e? v))(h:dk E (⟨fn,fq o.dst tm v,r? ops rest::k⟩::os) S.w V):jQ E S (⟨fn,tm,r? ops (i::rest)::k⟩::os) V:=by
 intro m Pd ρ gs w sl t fr' cs' Tc ap aq ar aa ad h0;refine turn (Z:=E.Z) (a:=G fr' cs') (K:=λj=>(ρ j).sum) (N:=gs.size) q? ?_ ρ gs w sl t aq (λ_=>rfl) h0 rfl;intro ρ' gs' w' a0 aj d t' O hK ak hN;obtain⟨hm,hd,hk,f,hf,U⟩:=hl;have hF:=ad.rM;rw[ao]at ad;have ae:=ve (E:=E) (.inl i!) aa;obtain⟨W,l',rfl,ht,au⟩:=aa.head
 obtain⟨rfl,af⟩:cs'=gU fn W _::l'/\fr'.kind=.normal:=by
  cases ad with
  |one _ _ hb _=>
   refine⟨q?,?_⟩;obtain⟨x,_⟩|⟨_,ps,e,x⟩:=hb
   exact x;exact absurd x (ae ps e)
  |cons _ _ _ hx=>cases hx
 have Y:=hF.mode;have ab:=hF.defers;rw[hm]at Y;rw[hd]at ab;have av:=hF.fn;have al:=hF.tmps;obtain⟨a1,ag,ah,a2,a3,a4,ai⟩:=fr';cases Y;cases ab;subst af av;have am:=(mX (P:=P) (fn:=f) al).run _ _ #[] (O.main.tp _) (.inl (qf _ _))
 have aw:(bK f S.fr.tmps).run P (tp S.w (along S.w (w'.at d)))=.ok v (tp S.w (along S.w (w'.at d))):=by
  have an:=(mX (P:=P) (fn:=f) al).loc _ _ O.main;obtain⟨x,w₁,e,_⟩|⟨_,_,h3⟩:=an
  rw[U]at e;cases e;have:=h3 (along S.w (w'.at d)) (by rw[U];intro i a b;simp only[DS]at b;omega);rw[U]at this;exact this
 rw[aw]at am;obtain⟨dA,v',w₁,es₁,e1,e2,e3,e4,_,e6,e7⟩:=am;have ac:=jV fn W ops i rest k v';simp only[hi,cD]at ac
 have ax:bz P t? (G ⟨S.fr.fn,ag,ah,[],.returning,.normal,ai⟩ (gU fn W (r? ops (i::rest)::k)::l')) (w'.at d)=.go (G (gU fn (fq o.dst W v') (r? ops rest::k)) l') w₁ (bL P S.fr.fn es₁):=by have:bz P t? (G ⟨S.fr.fn,ag,ah,[],.returning,.normal,ai⟩ (gU fn W (r? ops (i::rest)::k)::l')) (w'.at d)=b7 P t? ⟨S.fr.fn,ag,ah,[],.returning,.normal,ai⟩ _ x? _:=rfl;rw[this];unfold b7;simp only[hf,e1];unfold bG;simp only[ac];simp[fb,G]
 have ay:=bT (P:=P) (sl:=aj) (i:=0) ak (show bz P _ _ _=_ from ax);rw[ay];refine E.Z.next _ _ _ _ ?_;have az:=(bk.1 ak).1;exact(dk.tape (τ:=along S.w (w'.at d)) (wl:=S.w) (λm Pd ρ gs w sl t fr' cs' a b c d e=>h m Pd ρ gs w sl t fr' cs' a (b.tape _) c d e)) dA Pd ρ' _ _ aj _ _ _ (ap.le e2 e6) ((O.ym (gs':=(gs'.map _).setIfInBounds 0 _) e2 e6 (λe he=>e7 e (cj he)) e4 i! (ir _)).tape _) (ar.le e2 hK) (.cons (o:=⟨fn,fq _ tm v,r? ops rest::k⟩) ((ht.mono e2).fq _ e3) (au.mono e2)) (by simp[az])
end
variable {ars:Array Operand} {ts:Array bI} {tm1:Array v?} {c:Code} {iD:Func} {f f1:bD} {v:v?}
section
variable {P:P?} {E:Env P} {fn:bD} {tm:Array v?} {os:List OF} {wl:w?} {V:List (Nat×Option (List v?))} {k:List Item}
def G'(P)(W:P.funcs[f]?=y? iD)(hb:iD.body=y? c)(Y:iD.name≠ "runtime.NumGoroutine") (ρ) (O:ρ (.func f)=.func (.func f) #[] #[]) {o} (ho:o.op=.call {callee:=.value (.func f),args:=ars,argTypes:=ts}) (w):(bA ρ o).runT P w #[]=(.ok (.enter f (ars.map ρ)) w,#[]):=by
 obtain⟨d,op,ty,ps,af,g⟩:=o;subst ho;have U:(iD.name == "runtime.NumGoroutine")=f?:=by simpa using Y
 have e:bA ρ ⟨d,.call {callee:=.value (.func f),args:=ars,argTypes:=ts},ty,ps,af,g⟩=callFunc f ((#[]++ars.map ρ)++#[]):=by simp only[bA,resolve,O,Deferred.ofValue,invoke];rfl
 rw[e,bs];unfold callFunc;have e2:∀k:P?->Sem Go.Next,(program >>= k).runT P w #[]=(k P).runT P w _:=λk=>rfl;rw[e2];simp only[W,U,hb,dt,if_false,Option.isNone_some];rfl
def dk.outer{i rest o}(hi:ops[i]?=y? o)(aa:ef o (b5 ops tm)=t?)(hf:P.funcs[f]?=y? iD)(hb:iD.body=y? c)(hn:iD.name≠ "runtime.NumGoroutine") (ho:o.op=.call {callee:=.value (.func f),args:=ars,argTypes:=ts}) (ab:∀x∈ars.toList,e9 E.gE E.gl x)
  (h:dk E (⟨f,ars.map (kE tm)++bm (iD.ntmps-ars.size) gz,[.code c]⟩::⟨fn,tm,r? ops (i::rest)::k⟩::os) wl V):dk E (⟨fn,tm,r? ops (i::rest)::k⟩::os) wl V:=by
 refine dk.step (N:=λo w=>dk E o w V) (λm w fr' cs' hr U hw=>?_) (λo w h=>h);have W:=U
 cases U with
 |@cons _ _ O l ht ae=>
  have hy:ef o (b5 ops O)=t?:=by rw[show b5 ops O=b5 ops tm from funext (mQ ops ht)];exact aa
  have ac:=mY (P:=P) (fn:=fn) (k:=k) (rest:=rest) (cs':=cs') (w:=w) hi hy;have Y:=G' P hf hb hn (kE O) q? ho w;have ha:=lC (gE:=m.gE) (gl:=E.gl) (λx hx=>Ki ht hr.qR.qa x hx) (λx hx=>by rw[hr.gE];exact ab x hx)
  have ad:en P t? (gU fn O (r? ops (i::rest)::k)) cs' x? (bA (kE O) o) w=.go (G (gU f (ars.map (kE O)++bm (iD.ntmps-ars.size) gz) [.code c]) (gU fn O (r? ops (i::rest)::k)::cs')) w #[]:=by unfold en;simp only[if_true,Y];simp[fb,G,gU,gc,hf,hb,bL]
  exact⟨m,_,_,w,#[],_,wl,ac.trans ad,.refl m,.refl m w,i!,.cons (o:=⟨f,ars.map _++bm _ gz,[.code c]⟩) (ha.append (.replicate _ (.undef m))) W,hw,h⟩
def MM{m Pd ρ gs w sl t O td1 l' i rest o tm' f}
  (ad:Rg E m) (ae:Co P E.gu E.w0 Pd ρ m wl gs w t) (af:Tj m ρ Pd V) (ag:eP m tm1 O) (ht:eP m tm tm') (ah:pC m E.T os l') (hf:P.funcs[f1]?=y? f) (hi:ops[i]?=y? o) (Y:∀τ,(bK f tm1).run P (tp wl τ)=.ok v (tp wl τ))
  (h0:gs[0]?=y? (G ⟨f1,O,td1,[],.returning,.normal,x?⟩ (gU fn tm' (r? ops (i::rest)::k)::l'))) (h:dk E (⟨fn,fq o.dst tm v,r? ops rest::k⟩::os) wl V):E.Z.Up (bW gs w sl) t:=by
 refine turn (Z:=E.Z) (a:=G ..) (K:=λj=>(ρ j).sum) (N:=gs.size) q? ?_ ρ gs w sl t ae (λ_=>rfl) h0 rfl;intro ρ' gs' w' al aa d t' U hK ab hN;have ac:=(mX (P:=P) (fn:=f) ag).run _ _ #[] (U.main.tp _) (.inl (qf wl _));rw[Y]at ac;obtain⟨dA,v',w₁,es₁,e1,e2,e3,e4,_,e6,e7⟩:=ac;have W:=jV fn tm' ops i rest k v';simp only[hi,cD]at W
 have ai:bz P t? (G ⟨f1,O,td1,[],.returning,.normal,x?⟩ (gU fn tm' (r? ops (i::rest)::k)::l')) (w'.at d)=.go (G (gU fn (fq o.dst tm' v') (r? ops rest::k)) l') w₁ (bL P f1 es₁):=by have:bz P t? (G ⟨f1,O,td1,[],.returning,.normal,x?⟩ (gU fn tm' (r? ops (i::rest)::k)::l')) (w'.at d)=b7 P t? ⟨f1,O,td1,[],.returning,.normal,x?⟩ _ x? _:=rfl;rw[this];unfold b7;simp only[hf,e1];unfold bG;simp only[W];simp[fb,G]
 have aj:=bT (P:=P) (sl:=aa) (i:=0) ab (show bz P .. = _ from ai);rw[aj];refine E.Z.next _ _ _ _ ?_;have ak:=(bk.1 ab).1;exact h dA Pd ρ' _ _ aa _ _ _ (ad.le e2 e6) ((U.ym (gs':=(gs'.map _).setIfInBounds 0 _) e2 e6 (λe he=>e7 e (cj he)) e4 i! (ir _)).tape _) (af.le e2 hK) (.cons (o:=⟨fn,fq _ tm v,r? ops rest::k⟩) ((ht.mono e2).fq _ e3) (ah.mono e2)) (by simp[ak])
def dk.back{td1:List Item}{i rest o f}(ac:td1=[]\/∃k1,td1=.code .ret::k1)(hf:P.funcs[f1]?=y? f)(hi:ops[i]?=y? o)(W:∀τ,(bK f tm1).run P (tp wl τ)=.ok v (tp wl τ))
  (h:dk E (⟨fn,fq o.dst tm v,r? ops rest::k⟩::os) wl V):dk E (⟨f1,tm1,td1⟩::⟨fn,tm,r? ops (i::rest)::k⟩::os) wl V:=by
 intro m Pd ρ gs w sl t fr' cs' ad ae af O h0;refine turn (Z:=E.Z) (a:=G fr' cs') (K:=λj=>(ρ j).sum) (N:=gs.size) q? ?_ ρ gs w sl t ae (λ_=>rfl) h0 rfl;intro ρ' gs' w' am ag d t' U hK Y hN
 cases O with
 |@cons _ _ aa l ah O=>
  obtain⟨ab,l',rfl,ht,ai⟩:=O.head
  have aj:bz P t? (G (gU f1 aa td1) (gU fn ab (r? ops (i::rest)::k)::l')) (w'.at d)=.go (G ⟨f1,aa,td1,[],.returning,.normal,x?⟩ (gU fn ab (r? ops (i::rest)::k)::l')) (w'.at d) #[]:=by obtain rfl|⟨k1,rfl⟩:=ac<;>rfl
  have ak:=bT (P:=P) (sl:=ag) (i:=0) Y (show bz P .. = _ from aj);rw[ak];refine E.Z.next _ _ _ _ ?_;have al:=(bk.1 Y).1;exact MM (td1:=td1) ad (U.ym (gs':=(gs'.map _).setIfInBounds 0 _) (.refl m) (.refl m _) i! U.main i! (ir _)) (af.le (.refl m) hK) ah ht ai hf hi W (by simp[al]) h
def zj(ok:Oper->Prop):Item->Prop
 |.code c|.inLoop c|.inScope c=>gG ok c|.inBlock _=>True|r? ops _=>∀o∈ops.toList,ok o|_=>False
def zj.R{m}:∀{td},(∀x∈td,zj m.ok x)->dY (kU m) td td
 |[],_=>.nil
 |x::td,h=>by
  refine .cons ?_ (zj.R λy U=>h y (by simp[U]))
  have O:=h x i!
  cases x with
  |code c=>exact .code c O|inLoop c=>exact .inLoop c O|inScope c=>exact .inScope c O|inBlock i=>exact .inBlock i|inRegion ops t=>exact .inRegion ops t O|_=>exact O.elim
def dk.tail{td}(aa:∀x∈td,zj E.ok x)(O:wF E os)(h:jQ E ⟨gU fn tm td,[door P],wl⟩ os V):dk E (⟨fn,tm,td⟩::os) wl V:=by intro m Pd ρ gs w sl t fr' cs' U ab ac W h0;obtain⟨ad,l',e,ht,Y⟩:=W.head;cases e;exact h m Pd ρ gs w sl t _ _ cs' U ab ac Y (ed.one (fr:=gU fn tm td) (fr':=gU fn ad td) ⟨q?,ht,zj.R (by rw[U.U0];exact aa),.nil,.run,.none⟩ q? (.inl ⟨q?,ve O Y⟩) q?) h0
end
section
variable {P:P?} {Post:v?->w?->Prop}
def vk(P:P?)(Post:v?->w?->Prop)(M:Machine)(t:b6):Prop:=∃N last o w' t',runNT P (N+1) M t=(.ended o w',t')/\bB P N M=.next last/\step P last=.ended o w'/\Good P Post last o w' t'
def Ca{M r ops}(h:bN P M=(r,ops)):step P M=r:=by unfold step;rw[h]
def ending(P)(Post:v?->w?->Prop):mE P where
 Up:=vk P Post
 Fin:=λM r t=>match r with
  |(.next O,ops)=>vk P Post O (t++ops)|(.ended o w',ops)=>Good P Post M o w' (t++ops)
 back:=by
  intro M t h
  rcases hs:bN P M with⟨r,ops⟩
  rw[hs]at h
  cases r with
  |next O=>
   obtain⟨N,last,o,w',t',U,W,Y,h4⟩:=h
   refine⟨N+1,last,o,w',t',?_,?_,Y,h4⟩
   .rw[runNT,hs];exact U
   .simp only[bB,Ca hs];exact W
  |ended o w'=>exact⟨0,M,o,w',t++ops,by rw[runNT,hs],q?,Ca hs,h⟩
 next:=λ_ _ _ _ h=>h
variable {gu:Nat->Prop} {w0:w?} {Pd:Nat->Prop} {ρ:Nat->eY} {m:Ren} {wl:w?} {gs:Array Goroutine} {w:w?} {t:b6}
def Co.over(h:Co P gu w0 Pd ρ m wl gs w t)(O:∀i,(ρ i).sum=x?):na t λ_=>False:=h.lF.mono λi U=>absurd (O i) U
def Co.lv(h:Co P gu w0 Pd ρ m wl gs w t)(Y:∀i,(ρ i).sum=x?){i g}(hi:0<i)(hg:gs[i]?=y? g):∃q,Lv P q g:=by
 have U:=h.at_ i g hi hg;have W:=Y i
 cases O:ρ i with
 |quit q=>rw[O]at U;exact⟨q,U⟩|ended hd J m S q=>rw[O]at U;exact⟨q,U.1⟩|act=>rw[O]at W;cases W
 |kD=>rw[O]at W;cases W
 |start=>rw[O]at W;cases W
def jQ.done{E}(hZ:E.Z=ending P Post)(hT:E.T=[]){S:LS}(an:S.cs=[door P])(hl:S.fr.leaving P S.w (.returned v))(ao:P.inits.idxOf? S.fr.fn=x?)
  (af:∀m v' w,Rg E m->VR m v v'->WR m S.w w->(∀b,E.gu b->w.1[b]?=E.w0.1[b]?)->(w.os=E.w0.os/\w.output=E.w0.output)->Post v' w):jQ E S [] []:=by
 intro m Pd ρ gs w sl t fr' cs' Tc ap aq ar aj ag h0
 have hn:∀i,(ρ i).sum=x?:=by
  intro i
  cases e:(ρ i).sum with
  |none=>rfl|some x=>obtain⟨r,vs,hx,_⟩:=ar.only i x.1 x.2 e;cases hx
 refine turn (Z:=E.Z) (a:=G fr' cs') (K:=λj=>(ρ j).sum) (N:=gs.size) q? ?_ ρ gs w sl t aq (λ_=>rfl) h0 rfl;intro ρ' gs' w' au av d t' U hK aw hN;have ah:∀i,(ρ' i).sum=x?:=λi=>(hK i).trans (hn i);obtain⟨hm,hd,hk,f,hf,W⟩:=hl;have hF:=ag.rM;rw[an]at ag
 obtain rfl:Tc=[]:=by cases aj;exact hT
 obtain⟨rfl,ai⟩:cs'=[]/\fr'.kind=.normal:=by
  cases ag with
  |one _ _ hb _=>
   refine⟨q?,?_⟩;obtain⟨x,_⟩|⟨_,ps,e,x⟩:=hb
   exact x
   cases e
  |cons _ _ _ hx=>cases hx
 have Y:=hF.mode;have ae:=hF.defers;rw[hm]at Y;rw[hd]at ae;have ax:=hF.fn;have ak:=hF.tmps;obtain⟨a1,aa,ab,a2,a3,a4,ac⟩:=fr';cases Y;cases ae;subst ai ax;have al:=(mX (P:=P) (fn:=f) ak).run _ _ #[] (U.main.tp _) (.inl (qf _ _))
 have ay:(bK f S.fr.tmps).run P (tp S.w (along S.w (w'.at d)))=.ok v (tp S.w (along S.w (w'.at d))):=by
  have am:=(mX (P:=P) (fn:=f) ak).loc _ _ U.main;obtain⟨x,w₁,e,_⟩|⟨_,_,h3⟩:=am
  rw[W]at e;cases e;have:=h3 (along S.w (w'.at d)) (by rw[W];intro i a b;simp only[DS]at b;omega);rw[W]at this;exact this
 rw[ay]at al;obtain⟨dA,v',w₁,es₁,e1,e2,e3,e4,_,e6,e7⟩:=al
 have az:bz P t? (G ⟨S.fr.fn,aa,ab,[],.returning,.normal,ac⟩ []) (w'.at d)=.ended (.done v') w₁ (bL P S.fr.fn es₁):=by have:bz P t? (G ⟨S.fr.fn,aa,ab,[],.returning,.normal,ac⟩ []) (w'.at d)=b7 P t? ⟨S.fr.fn,aa,ab,[],.returning,.normal,ac⟩ [] x? _:=rfl;rw[this];unfold b7;simp only[hf,e1];unfold bG;simp[fb,ao]
 have a0:=runT_many_ended (P:=P) (sl:=av) (i:=0) aw (show bz P _ _ _=_ from az);rw[a0,hZ];have O:=U.ym (gs':=gs') (fn:=S.fr.fn) (pos:=(G (⟨S.fr.fn,aa,ab,[],.returning,.normal,ac⟩) []).frame.place) e2 e6 (es:=bL P S.fr.fn es₁) (λe he=>e7 e (cj he)) e4 q? (λj x _ hx=>⟨x,hx,λ_=>rfl⟩);have ad:=ap.le e2 e6;refine⟨v',q?,af dA v' w₁ ad e3 (e4.tp _) (λb hb=>(O.fix b hb).2) O.os,O.clean,(O.over ah).over,⟨λx hx=>?_,q?⟩,λj x hx hj=>?_⟩;obtain⟨j,hj⟩:=cN.1 hx;rw[List.getElem?_drop]at hj;obtain⟨q,hq⟩:=O.lv ah (i:=1+j) o! (by simpa[bW]using hj);exact⟨_,hq.GO.leaves⟩;obtain⟨q,hq⟩:=O.lv ah (i:=j) o! hx;refine⟨q,?_⟩
 have e:∀u,mc u->fv P (bW gs' w' au).world q x (u.deaf j u.size)=y? 0:=λu hu=>by rw[hu.deaf j _];exact hq.GO.hears _
 exact e _ O.hears
end
end
section
open Go.Conc
open Go.ConcN (upd upd_same upd_ne)
section
variable {P:P?} {gu:Nat->Prop} {w0:w?} {Pd:Nat->Prop} {ρ:Nat->eY} {m m₂:Ren} {wl wl₂:w?} {gs gs':Array Goroutine} {w w₁:w?} {t:b6}
def MV{h:Array Obj}{o x}{r:Nat}(O:h[r]?=y? x):(h.push o)[r]?=h[r]?:=fw (lh O)
def Co.made(h:Co P gu w0 Pd ρ m wl gs w t)(U:w₁={w with heap:=w.1.push (.chan 0 #[] f? 0 0 f?)})(ab:WR m₂ wl₂ w₁)(hb:m₂.blk=m.blk)(hl:m₂.loose=m.loose)(ac:gs'.size=gs.size)
  (ad:∀j x,0<j->gs'[j]?=y? x->∃y,gs[j]?=y? y/\(At P w₁ t j y (ρ j)->x=y)):Co P gu w0 (λc=>Pd c\/c=w.1.size) ρ m₂ wl₂ gs' w₁ t:=by
 subst U;have O:w.1.size<=(w.1.push (.chan 0 #[] f? 0 0 f?)).size:=i!
 have hrel:∀j y,0<j->gs[j]?=y? y->At P {w with heap:=w.1.push (.chan 0 #[] f? 0 0 f?)} t j y (ρ j):=by
  intro j y hj hy
  have:=(h.at_ j y hj hy).rely (w₁:={w with heap:=w.1.push _}) (u:=#[]) (λm' W r b hb=>by
   obtain⟨wl',ae⟩:=h.wr W
   exact fw (ae.lt hb).2) (λJ hJ=>by
   obtain⟨cl,s,r,Y⟩:=h.is hJ
   exact MV Y) O q? i!
  simpa using this
 refine⟨ab,λj x aa Y=>?_,λj hj=>h.out j (by rw[<-ac];exact hj),λi m' W=>?_,h.dd,h.cc,?_,h.ss,h.Ny,λp a b ha hb=>cV (h.low p a b ha hb) O,h.hears,h.lF,h.clean,λb hb=>?_,λr b hr hf=>?_,h.ff,h.cx,cX h.sz O,h.os,h.kn,λc hc=>?_,h.len⟩;obtain⟨y,hy,af⟩:=ad j x aa Y;have:=hrel j y aa hy;rw[af this];exact this;have:=h.d0 i m' W;unfold pB at this⊢;rw[hb,hl];exact this;have:=h.s0;unfold oG at this⊢;rw[hb,hl];exact this;obtain⟨h1,h2⟩:=h.fix b hb;exact⟨cV h1 O,by rw[<-h2];exact fw h1⟩;rw[hb]at hr;rw[hl];exact h.f0 r b hr hf;obtain hc|rfl:=hc
 obtain⟨⟨s,r,h1⟩,h2,h3,h4⟩:=h.pd c hc;exact⟨⟨s,r,jJ h1⟩,h2,h3,h4⟩;refine⟨⟨0,0,i!⟩,λp a ha hb=>?_,λi J hJ e=>?_,λhf=>?_⟩;have:=h.low p a _ ha hb;omega;obtain⟨cl,s,r,Y⟩:=h.is hJ;have:=lh Y;omega;have:=(h.fix _ hf).1;omega
def M2(h:Array Obj)(o):(h.push o).setIfInBounds h.size o=h.push o:=by apply Array.ext_getElem?;intro j;by_cases e:h.size=j;subst e;simp;rw[bj e]
def Co.spawn{Fix₂ Pd₂:Nat->Prop}{J:qK}{mi:Ren}{S k g' child a b}(h:Co P gu w0 Pd ρ m wl gs w t)(h0:0<gs.size)(hF:∀b,Fix₂ b->gu b)(hP:∀c,Pd₂ c->Pd c/\c≠J.c)(hJ:Pd J.c)
  (ha:a.g=0) (ad:a.act=.go gs.size) (hb:b.g=gs.size) (ae:b.act=.start) (aj:WR m₂ wl₂ w) (ac:∀r q,m₂.blk r=y? q->∃r0,m.blk r0=y? q/\(m.loose r0->m₂.loose r))
  (ag:∀r q,mi.blk r=y? q->(∃r0,m.blk r0=y? q/\(m.loose r0->mi.loose r))\/(gu q/\(∀r0,m.blk r0≠y? q)/\∀j m' r',(ρ j).oc=y? m'->m'.blk r'≠y? q)) (ak:pB m₂ mi) (al:∀r q,mi.blk r=y? q->Fix₂ q->mi.loose r) (ah:∀b,gu b->Fix₂ b\/∃r o,J.nF r b o/\w0.1[b]?=y? o)
  (am:At P w (t++#[a,b]) gs.size child (.start J mi S k)) :
  Co P Fix₂ w0 Pd₂ (cJ ρ gs.size (.start J mi S k)) m₂ wl₂ ((gs.setIfInBounds 0 g').push child) w (t++#[a,b]):=by
 have hold:ρ gs.size=.quit 0:=h.out _ (.inr (cW _))
 have hu:∀op∈(#[a,b]:Array MemOp),op.act.touch?=x?:=by
  intro op Y;simp only[cO,cK,cL,or_false]at Y;obtain rfl|rfl:=Y
  rw[ad];rfl;rw[ae];rfl
 have hh:mc (t++#[a,b]):=h.hears.append λop Y=>by
  simp only[cO,cK,cL,or_false]at Y;obtain rfl|rfl:=Y
  rw[ad];simp;rw[ae];simp
 obtain⟨au,an,ai,ao⟩:=h.pd J.c hJ
 have di:∀j m',(ρ j).oc=y? m'->pB mi m':=by
  intro j m' O r r' q W h2;obtain⟨r0,x,y⟩|⟨_,_,x⟩:=ag r q W
  obtain⟨l1,l2⟩:=h.d0 j m' O r0 r' q x h2;exact⟨y l1,l2⟩;exact absurd h2 (x j m' r' O)
 have kr:∀j m',(cJ ρ gs.size (.start J mi S k) j).oc=y? m'->(j=gs.size/\m'=mi)\/(j≠gs.size/\(ρ j).oc=y? m'):=λj m' U=>by by_cases e:j=gs.size;subst e;rw[cH]at U;cases U;exact .inl ⟨q?,q?⟩;rw[cI _ _ e]at U;exact .inr ⟨e,U⟩
 have kj:∀j J',(cJ ρ gs.size (.start J mi S k) j).tI=y? J'->(j=gs.size/\J'=J)\/(j≠gs.size/\(ρ j).tI=y? J'):=λj J' U=>by by_cases e:j=gs.size;subst e;rw[cH]at U;cases U;exact .inl ⟨q?,q?⟩;rw[cI _ _ e]at U;exact .inr ⟨e,U⟩
 refine⟨aj,λj x ap U=>?_,λj hj=>?_,λj m' O=>?_,λj l m1 m2 ab W h2=>?_,λj l J1 J2 ab W h2=>?_,?_,λj m' O=>?_,λj J' aa p x U hq=>?_,λp x q U hq=>?_,hh,?_,λsaid=>?_,λq hq=>h.fix q (hF q hq),λr q hr hf=>?_,λj m' O r q hr hf=>?_,λj J' aa hf=>?_,h.sz,h.os,?_,λc hc=>?_,λb hb=>?_⟩;by_cases e:j=gs.size;subst e;rw[cH];have:((gs.setIfInBounds 0 g').push child)[gs.size]?=y? child:=by rw[bt];simp
 rw[this]at U;cases U;exact am;rw[cI _ _ e]
 have av:j<gs.size:=by have:=(bk.1 U).1;simp at this;omega
 have:gs[j]?=y? x:=by rw[bt]at U;simp only[Array.size_setIfInBounds]at U;rw[if_neg e,bj o!]at U;exact U
 exact(h.at_ j x ap this).rely (λ_ _ _ _ _=>rfl) (λ_ _=>rfl) (cW _) q? λop Y _=>hu op Y
 have ab:j≠gs.size:=by
  obtain x|x:=hj
  omega;simp at x;omega
 rw[cI _ _ ab];exact h.out j (hj.imp id λx=>by simp at x;omega);obtain⟨_,em⟩|⟨_,O⟩:=kr j m' O
 rw[em];exact ak;intro r r' q W h2;obtain⟨r0,x,y⟩:=ac r q W;obtain⟨l1,l2⟩:=h.d0 j m' O r0 r' q x h2;exact⟨y l1,l2⟩;obtain⟨ej,em⟩|⟨ej,x1⟩:=kr j m1 W
 obtain⟨el,_⟩|⟨_,x2⟩:=kr l m2 h2
 exact absurd (ej.trans el.symm) ab;rw[em];exact di l m2 x2;obtain⟨el,em⟩|⟨_,x2⟩:=kr l m2 h2
 rw[em];exact(di j m1 x1).symm;exact h.dd j l m1 m2 ab x1 x2;obtain⟨ej,em⟩|⟨ej,x1⟩:=kj j J1 W
 obtain⟨el,_⟩|⟨_,x2⟩:=kj l J2 h2
 exact absurd (ej.trans el.symm) ab;rw[em];exact ga (ai l J2 x2);obtain⟨el,em⟩|⟨_,x2⟩:=kj l J2 h2
 rw[em];exact ai j J1 x1;exact h.cc j l J1 J2 ab x1 x2;refine oG.mute (λp x q r U hq hr af=>?_) hu;obtain⟨r0,y,z⟩:=ac r q hr;exact h.s0 p x q r0 U hq y λl=>af (z l);by_cases e:j=gs.size;subst e;rw[cH]at O;cases O;intro p x q r U hq hr af;obtain⟨_,W⟩|⟨op,W,_,h3⟩:=eI U
 refine E5 hh ha ad hb ae ?_;obtain⟨r0,y,z⟩|⟨y,_,z⟩:=ag r q hr
 exact h.s0 p x q r0 W hq y λl=>af (z l);obtain v|⟨j',m',r',v1,v2⟩:=h.kn p x q W hq y
 exact v;exact absurd v2 (z j' m' r' v1);rw[hu op W]at h3;cases h3;rw[cI _ _ e]at O;exact(h.ss j m' O).mute hu;obtain⟨_,W⟩|⟨op,W,_,h3⟩:=eI U
 obtain⟨_,em⟩|⟨e,_⟩:=kj j J' (eY.vf aa)
 rw[em]at hq;exact an p x W hq;rw[cI _ _ e]at aa;exact h.Ny j J' aa p x W hq;rw[hu op W]at h3;cases h3;obtain⟨_,W⟩|⟨op,W,_,h3⟩:=eI U
 exact h.low p x q W hq;rw[hu op W]at h3;cases h3;refine(h.lF.mono λj hj=>?_).app λop Y=>.inl (hu op Y);by_cases e:j=gs.size;subst e;rw[hold]at hj;exact absurd q? hj;rw[cI _ _ e];exact hj;have:=su (u:=[a,b]) (u! hu) (h.clean said);simpa using this;obtain⟨r0,y,z⟩:=ac r q hr;exact z (h.f0 r0 q y (hF q hf));obtain⟨_,em⟩|⟨_,O⟩:=kr j m' O
 rw[em]at hr⊢;exact al r q hr hf;exact h.ff j m' O r q hr (hF q hf);obtain⟨_,em⟩|⟨_,aa⟩:=kj j J' aa
 rw[em]at hf;exact ao (hF _ hf);exact h.cx j J' aa (hF _ hf);intro p x q U hq hf;have hk:Kn gu (cJ ρ _ (.start J mi S k)) _:=h.kn.app (λj m' r q O hq=>⟨j,m',r,by rw[cI _ _ (by rintro rfl;rw[hold]at O;cases O)];exact O,hq⟩) λop Y x q U _ _=>by rw[hu op Y]at U;cases U
 exact hk p x q U hq (hF q hf);obtain⟨aq,ar⟩:=hP c hc;obtain⟨g1,g2,g3,g4⟩:=h.pd c aq;refine⟨g1,λp x U hq=>?_,λj J' aa=>?_,λhf=>g4 (hF c hf)⟩;obtain⟨_,W⟩|⟨op,W,_,h3⟩:=eI U
 exact g2 p x W hq;rw[hu op W]at h3;cases h3;obtain⟨_,em⟩|⟨_,aa⟩:=kj j J' aa
 rw[em];exact ga ar;exact g3 j J' aa;obtain x|⟨j,J',r,o,x1,x2⟩|z:=h.len b hb
 obtain y|⟨r,o,y1,y2⟩:=ah b x
 exact .inl y;exact .inr (.inl ⟨gs.size,J,r,o,by rw[cH];rfl,y1,y2⟩);exact .inr (.inl ⟨j,J',r,o,by rw[cI _ _ (by rintro rfl;rw[hold]at x1;cases x1)];exact x1,x2⟩);exact .inr (.inr z)
end
end
section
open Go.Conc
open Go.ConcN (upd upd_same upd_ne)
variable {ops:Array Oper}
def lH:Obj:=.chan 0 #[] f? 0 0 f?
section
variable {P:P?} {E:Env P} {fn:bD} {tm:Array v?} {os:List OF} {wl:w?} {V:List (Nat×Option (List v?))} {k:List Item}
def dk.makeChan{i rest o}(hi:ops[i]?=y? o)(aj:ef o (b5 ops tm)=t?)
  (ak:∀(O)(w),(bA (kE O) o).runT P w #[]=(.ok (.value (.chan (y? w.1.size))) {w with heap:=w.1.push (.chan 0 #[] f? 0 0 f?)},#[]))
  (h:dk E (⟨fn,fq o.dst tm (.chan (y? wl.1.size)),r? ops rest::k⟩::os) {wl with heap:=wl.1.push lH} ((wl.1.size,x?)::V)):dk E (⟨fn,tm,r? ops (i::rest)::k⟩::os) wl V:=by
 intro m Pd ρ gs w sl t fr' cs' W al am af h0;refine turn (Z:=E.Z) (a:=G fr' cs') (K:=λj=>(ρ j).sum) (N:=gs.size) q? ?_ ρ gs w sl t al (λ_=>rfl) h0 rfl;intro ρ' gs' w' aw ag d t' ab hK ah hN
 cases af with
 |@cons _ _ O l ht an=>
  have hy:ef o (b5 ops O)=t?:=by rw[show b5 ops O=b5 ops tm from funext (mQ ops ht)];exact aj
  have ao:=mY (P:=P) (fn:=fn) (k:=k) (rest:=rest) (cs':=cs') (w:=w'.at d) hi hy;have ac:=jV fn O ops i rest k (.chan (y? (w'.at d).1.size));simp only[hi,cD]at ac
  have ap:en P t? (gU fn O (r? ops (i::rest)::k)) cs' x? (bA (kE O) o) (w'.at d)=.go (G (gU fn (fq o.dst O (.chan (y? (w'.at d).1.size))) (r? ops rest::k)) cs') {w'.at d with heap:=(w'.at d).1.push (.chan 0 #[] f? 0 0 f?)} #[]:=by unfold en;simp only[if_true,ak,ac];simp[fb,G,gU,bL]
  have aq:=bT (P:=P) (sl:=ag) (i:=0) ah (show bz P (0==0) _ (w'.at d)=_ from ao.trans ap);have e0:∀f p,da 0 f p #[]=#[]:=λf p=>by rw[bZ];simp
  rw[aq,e0];refine E.Z.next _ _ _ _ ?_;have ar:=(bk.1 ah).1;have ae:=ab.main;let dA:=m.uJ _ _ ae.rp ae.oW;let m₂:=dA.put wl.1.size lH;have U:m.Le m₂:=(Ren.yY _ _).trans (Ren.pY dA ..)
  have au:WR m₂ {wl with heap:=wl.1.push lH} {w'.at d with heap:=(w'.at d).1.push (.chan 0 #[] f? 0 0 f?)}:=by
   have:=(ae.PN lH (.chan 0 #[] f? 0 0 f?)).put (r:=wl.1.size) (o:=lH) ⟨_,_,_,_,_,_,q?⟩ ⟨0,#[],f?,0,0,f?,by simp[lH]⟩;have e:({wl with heap:=wl.1.push lH})={({wl with heap:=wl.1.push lH})with heap:=(wl.1.push lH).setIfInBounds wl.1.size lH}:=by rw[M2]
   rw[e];exact this
  have ad:m₂.ch wl.1.size=y? (w'.at d).1.size:=by simp[m₂,dA,Ren.put,Ren.uJ]
  have aa:Rg E m₂:=by
   refine⟨W.qR.mono U,by exact W.jf,λr r' hr=>?_,U.gE.trans W.gE,U.ok.trans W.U0,E.le m m₂ U W.x⟩;by_cases e:r=wl.1.size;subst e;simp[m₂,Ren.put,lH];have av:=by simpa[m₂,dA,Ren.put,Ren.uJ,e]using hr
   simpa[m₂,dA,Ren.put,Ren.uJ,e]using W.nT r r' av
  have ai:=ab.made (m₂:=m₂) (gs':=(gs'.map (woken P (G (gU fn O (r? ops (i::rest)::k)) cs') (G (gU fn (fq o.dst O (.chan (y? (w'.at d).1.size))) (r? ops rest::k)) cs') _)).setIfInBounds 0 _) q? au q? q? i! (ir _);have Y:=am.le U hK;refine h m₂ _ ρ' _ _ ag _ _ _ aa ai ⟨λr vs hr=>?_,λi J n hi=>?_,λr hr=>?_⟩ (.cons (o:=⟨fn,fq _ tm _,r? ops rest::k⟩) ((ht.mono U).fq _ (.chan ad)) (an.mono U)) (by simp[ar]);exact Y.all r vs (u! hr);obtain⟨r,vs,x,y⟩:=Y.only i J n hi;exact⟨r,vs,by simp[x],y⟩;simp only[cK,Prod.mk.injEq,and_true]at hr;obtain rfl|hr:=hr
  exact⟨_,ad,.inr q?⟩;obtain⟨c,x,y⟩:=Y.M7 r hr;exact⟨c,x,.inl y⟩
structure Sends(E E₂:Env P)(f:bD)(caps:Array v?)(os Lj:List OF)(wl wl₂:w?)(rc:Nat)(L:List v?):Prop where
 z:E₂.Z=E.Z
 t:E₂.T=E.T
 w:E₂.w0=E.w0
 fix:∀b,E₂.gu b->E.gu b
 flat:∀v∈L,∀(m:Ren)v',VR m v v'->v'=v
 go:∀m caps' w c,Rg E m->eP m caps caps'->WR m wl w->m.ch rc=some c->gY w c false->(∀b,E.gu b->w.1[b]?=E.w0.1[b]?)->∃(J:qK)(mi:Ren)(S:LS)(k:Nat)(m₂:Ren),J.c=c/\J.L=L/\J.Ok P/\J.Ren mi/\mI P J.Stop S/\Holds S J.r []/\WR mi S.w w/\sQ P J mi S k (lX P ⟨.fn (.func f) caps',#[]⟩)/\
  Rg E₂ m₂/\WR m₂ wl₂ w/\m₂.ch=m.ch/\(∀l,pC m E.T os l->pC m₂ E.T Lj l)/\(∀r q,m₂.blk r=some q->∃r0,m.blk r0=some q/\(m.loose r0->m₂.loose r))/\
  (∀r q,mi.blk r=some q->(∃r0,m.blk r0=some q/\(m.loose r0->mi.loose r))\/(E.gu q/\(∀r0,m.blk r0≠some q)/\¬E₂.gu q))/\pB m₂ mi/\(∀r q,mi.blk r=some q->E₂.gu q->mi.loose r)/\(∀b,E.gu b->E₂.gu b\/∃r o,J.nF r b o/\E.w0.1[b]?=some o)
def DL(P)(f)(cx)(ρ){o}(O:o.op=.makeFunc (.func f) #[] cx)(w):(bA ρ o).runT P w #[]=(.ok (.value (.func (.func f) #[] (cx.map ρ))) w,#[]):=by obtain⟨d,op,U,ps,W,g⟩:=o;subst O;have e:bA ρ ⟨d,.makeFunc (.func f) #[] cx,U,ps,W,g⟩=(Instr.makeFunc .. >>= λv=>pure _):=rfl;have Y:(#[]).map ρ=#[]:=i!;rw[e,Y];rfl
def TX(P)(f)(q)(cap)(ρ){o}(O:o.op=.go {callee:=.value (.tmp q),args:=#[],argTypes:=#[]})(U:ρ (.tmp q)=.func (.func f) #[] cap)(w):(bA ρ o).runT P w #[]=(.ok (.spawn ⟨.fn (.func f) cap,#[]⟩) w,#[]):=by obtain⟨d,op,W,ps,Y,g⟩:=o;subst O;have e2:(#[]).map ρ=#[]:=i!;have e:bA ρ ⟨d,.go {callee:=.value (.tmp q),args:=#[],argTypes:=#[]},W,ps,Y,g⟩=(Deferred.ofValue .. >>= λd=>pure _):=rfl;rw[e,e2,U];rfl
def dk.go{E₂ i j rest oi oj f}{q:Tmp}{cx Lj wl₂ rc L V₂}(hi:ops[i]?=y? oi)(hj:ops[j]?=y? oj)(gi:oi.guard=x?)(gj:oj.guard=x?)(aB:oi.op=.makeFunc (.func f) #[] cx)(aC:oi.dst=y? q)(aD:oj.op=.go {callee:=.value (.tmp q),args:=#[],argTypes:=#[]})(aE:oj.dst=x?)(aF:∀x∈cx.toList,e9 E.gE E.gl x)(aG:q<tm.size)
  (hS:Sends E E₂ f (cx.map (kE tm)) (⟨fn,tm.setIfInBounds q (.tuple #[]),r? ops rest::k⟩::os) Lj wl wl₂ rc L) (an:∀q,E.gu q->¬E₂.gu q->∀m Pd ρ gs w t,Rg E m->Co P E.gu E.w0 Pd ρ m wl gs w t->Tj m ρ Pd V->∀j m' r',(ρ j).oc=y? m'->m'.blk r'≠y? q)
  (hV:(rc,x?)∈V) (aa:∀x∈V₂,x=(rc,y? L)\/(x∈V/\x≠(rc,x?))) (ao:(rc,y? L)∈V₂) (ap:∀r vs,(r,y? vs)∈V->(r,y? vs)∈V₂)
  (h:dk E₂ Lj wl₂ V₂):dk E (⟨fn,tm,r? ops (i::j::rest)::k⟩::os) wl V:=by
 intro m Pd ρ gs w sl t fr' cs' ag aH ab ac h0;refine turn (Z:=E.Z) (a:=G fr' cs') (K:=λj=>(ρ j).sum) (N:=gs.size) q? ?_ ρ gs w sl t aH (λ_=>rfl) h0 rfl;intro a1 aq w1 aU ak d1 t1 ad aI ar aV
 cases ac with
 |@cons _ _ O l ht aJ=>
  have aK:∀ae:Array v?,ef oi (b5 ops ae)=t?:=λ_=>by simp[ef,gi]
  have aL:∀ae:Array v?,ef oj (b5 ops ae)=t?:=λ_=>by simp[ef,gj]
  have au:=mY (P:=P) (fn:=fn) (k:=k) (rest:=j::rest) (cs':=cs') (w:=w1.at d1) hi (aK O);have W:=jV fn O ops i (j::rest) k (.func (.func f) #[] (cx.map (kE O)));simp only[hi,cD,aC,fq]at W
  have av:en P t? (gU fn O (r? ops (i::j::rest)::k)) cs' x? (bA (kE O) oi) (w1.at d1)=.go (G (gU fn (O.setIfInBounds q (.func (.func f) #[] (cx.map (kE O)))) (r? ops (j::rest)::k)) cs') (w1.at d1) #[]:=by unfold en;simp only[if_true,DL P f cx (kE O) aB,W];simp[fb,G,gU,bL]
  have ah:=bT (P:=P) (sl:=ak) (i:=0) ar (show bz P (0==0) _ (w1.at d1)=_ from au.trans av);rw[ah];refine E.Z.next _ _ _ _ ?_;have a2:0<aq.size:=(bk.1 ar).1;refine turn (Z:=E.Z) (a:=G (gU fn (O.setIfInBounds q (.func (.func f) #[] (cx.map (kE O)))) (r? ops (j::rest)::k)) cs') (K:=λj=>(a1 j).sum) (N:=aq.size) q? ?_ a1 _ _ ak _ (ad.ym (gs':=(aq.map (woken P _ _ (w1.at d1))).setIfInBounds 0 (G (gU fn (O.setIfInBounds q (.func (.func f) #[] (cx.map (kE O)))) (r? ops (j::rest)::k)) cs')) (.refl m) (.refl m _) i! ad.main i! (ir _)) (λ_=>rfl) (by simp[a2]) i!;clear ah ar ad;intro ρ' gs' w' aW a3 d0 t' U aM a4 hN;have hK:∀j,(ρ' j).sum=(ρ j).sum:=λj=>(aM j).trans (aI j);have au:=mY (P:=P) (fn:=fn) (k:=k) (rest:=rest) (cs':=cs') (w:=w'.at d0) hj (aL (O.setIfInBounds q (.func (.func f) #[] (cx.map (kE O)))));have aN:q<O.size:=by rw[<-ht.size];exact aG
  have aO:kE (O.setIfInBounds q (.func (.func f) #[] (cx.map (kE O)))) (.tmp q)=.func (.func f) #[] (cx.map (kE O)):=by show(O.setIfInBounds q _).getD q gz=_;rw[br,bq aN];rfl
  have a5:=TX P f q (cx.map (kE O)) (kE (O.setIfInBounds q (.func (.func f) #[] (cx.map (kE O))))) aD aO (w'.at d0);have aw:eP m (cx.map (kE tm)) (cx.map (kE O)):=lC (gE:=m.gE) (gl:=E.gl) (λx hx=>Ki ht ag.qR.qa x hx) (λx hx=>by rw[ag.gE];exact aF x hx);have W:=jV fn (O.setIfInBounds q (.func (.func f) #[] (cx.map (kE O)))) ops j rest k gz;simp only[hj,cD,aE,fq]at W
  have av:en P t? (gU fn (O.setIfInBounds q (.func (.func f) #[] (cx.map (kE O)))) (r? ops (j::rest)::k)) cs' x? (bA (kE (O.setIfInBounds q (.func (.func f) #[] (cx.map (kE O))))) oj) (w'.at d0)=.spawn (G (gU fn (O.setIfInBounds q (.func (.func f) #[] (cx.map (kE O)))) (r? ops rest::k)) cs') (lX P ⟨.fn (.func f) (cx.map (kE O)),#[]⟩) (w'.at d0) #[]:=by unfold en;simp only[if_true,a5,W,Bool.and_false,Bool.false_and,dt,if_false];simp[fb,G,gU,bL,lX]
  have ah:=runT_crowd_spawn (P:=P) (sl:=a3) (i:=0) a4 (show bz P (0==0) _ (w'.at d0)=_ from au.trans av);have e0:∀f p,da 0 f p #[]=#[]:=λf p=>by rw[bZ];simp
  rw[ah,e0];refine E.Z.next _ _ _ _ ?_;have a6:0<gs'.size:=(bk.1 a4).1;obtain⟨c,ai,a7⟩:=ab.M7 rc hV;obtain⟨al,aX,aY,aZ⟩:=U.pd c a7;have ac:pC m E.T (⟨fn,tm.setIfInBounds q (.tuple #[]),r? ops rest::k⟩::os) (gU fn (O.setIfInBounds q (.func (.func f) #[] (cx.map (kE O)))) (r? ops rest::k)::cs'):=.cons (o:=⟨fn,tm.setIfInBounds q (.tuple #[]),r? ops rest::k⟩) (ht.set q (.gN _ t!)) aJ;obtain⟨J,mi,S,ks,m₂,rfl,a8,aP,a9,ax,ay,aQ,af,aj,az,Y,a0,a',aR,aS,aT,aA⟩:=hS.go m (cx.map (kE O)) (w'.at d0) c ag aw U.main ai al λb hb=>(U.fix b hb).2
  have am:=U.spawn (Fix₂:=E₂.gu) (Pd₂:=λc=>Pd c/\c≠J.c) (g':=G (gU fn (O.setIfInBounds q (.func (.func f) #[] (cx.map (kE O)))) (r? ops rest::k)) cs') (child:=lX P ⟨.fn (.func f) (cx.map (kE O)),#[]⟩) (J:=J) (mi:=mi) (S:=S) (k:=ks)
   (a:={g:=0,fn:=(G (gU fn (O.setIfInBounds q (.func (.func f) #[] (cx.map (kE O)))) (r? ops (j::rest)::k)) cs').frame.fn,pos:=(G (gU fn (O.setIfInBounds q (.func (.func f) #[] (cx.map (kE O)))) (r? ops (j::rest)::k)) cs').frame.place,act:=.go gs'.size}) (b:={g:=gs'.size,fn:=(lX P ⟨.fn (.func f) (cx.map (kE O)),#[]⟩).frame.fn,pos:=(G (gU fn (O.setIfInBounds q (.func (.func f) #[] (cx.map (kE O)))) (r? ops (j::rest)::k)) cs').frame.place,act:=.start}) a6 hS.fix (λc hc=>hc) a7 q? q? q? q? az a' (λr q hr=>?_) aS aT aA ⟨aP,al,a9,ax,ay,aQ,af⟩
  rw[<-hS.z];rw[<-hS.w]at am;have hold:ρ' gs'.size=.quit 0:=U.out _ (.inr (cW _))
  refine h m₂ _ _ _ _ a3 _ _ _ aj am ⟨λr vs hr=>?_,λj J' n hj=>?_,λr hr=>?_⟩ (by rw[hS.t];exact a0 _ ac) (by
   rw[bt,if_neg j!]
   simp[a6])
  obtain x|⟨x,_⟩:=aa _ hr
  cases x;refine⟨gs'.size,J,0,by rw[cH];rfl,by rw[Y];exact ai,Nat.zero_le _,by rw[a8];rfl,by rw[a8];exact hS.flat⟩;obtain⟨j,J',n,x1,x2,x3⟩:=ab.all r vs x
  have hj:j≠gs'.size:=by rintro rfl;rw[<-hK,hold]at x1;cases x1
  exact⟨j,J',n,by rw[cI _ _ hj,hK];exact x1,by rw[Y];exact x2,x3⟩;by_cases e:j=gs'.size;subst e;rw[cH]at hj;cases hj;exact⟨rc,L,ao,by rw[Y];exact ai⟩;rw[cI _ _ e,hK]at hj;obtain⟨r,vs,x,y⟩:=ab.only j J' n hj;exact⟨r,vs,ap r vs x,by rw[Y];exact y⟩;obtain x|⟨x,y⟩:=aa _ hr
  cases x;obtain⟨c,x1,x2⟩:=ab.M7 r x;refine⟨c,by rw[Y];exact x1,x2,?_⟩;rintro rfl;have:=m.xu _ _ _ x1 ai;subst this;exact y rfl;obtain x|⟨x1,x2,x3⟩:=aR r q hr
  exact .inl x;exact .inr ⟨x1,x2,an q x1 x3 m Pd ρ' gs' _ t' ag U (ab.le (.refl m) hK)⟩
end
end
section
open Go.Conc
open Go.ConcN (upd upd_same upd_ne)
variable {v z:v?}
inductive Flat:v?->Prop
 |bool (b):Flat (.bool b)
 |int (k n):Flat (.int k n)
 |string (s):Flat (.string s)
 |agg {c:Array v?}:(∀i(h:i<c.size),Flat c[i])->Flat (.agg c)
def Flat.refl(h:Flat v)(m):VR m v v:=by
 induction h with
 |bool b=>exact .bool b|int k n=>exact .int k n|string s=>exact .string s|agg _ O=>exact .agg q? λi h _=>O i h
def Flat.eq(h:Flat v):∀(m)U,VR m v U->U=v:=by
 induction h with
 |bool b=>intro m U O;cases O;rfl
 |int k n=>intro m U O;cases O;rfl
 |string s=>intro m U O;cases O;rfl
 |@agg c _ Y=>
  intro m U O
  cases O with
  |@agg _ c' hs hi=>congr 1;refine bx hs.symm λi h1 W=>?_;exact Y i W m _ (hi i W h1)
def yH(z:v?)(k:Nat)(v:v?)(ok:Bool):v?:=
 .tuple #[goInt k,.bool ok,if k=0 then v else z,if k=1 then v else z,if k=2 then v else z,if k=3 then v else z,if k=4 then v else z,if k=5 then v else z,if k=6 then v else z]
def QW(z)(c0 c1 c2 c3 c4 c5 c6)(k:Nat)(v)(ok):bJ #[⟨c0,x?,z⟩,⟨c1,x?,z⟩,⟨c2,x?,z⟩,⟨c3,x?,z⟩,⟨c4,x?,z⟩,⟨c5,x?,z⟩,⟨c6,x?,z⟩] .select k v ok=yH z k v ok:=by
 have O:((0:Int)=k)=(k=0):=by rw[eq_iff_iff];omega
 have U:((1:Int)=k)=(k=1):=by rw[eq_iff_iff];omega
 have W:((2:Int)=k)=(k=2):=by rw[eq_iff_iff];omega
 have Y:((3:Int)=k)=(k=3):=by rw[eq_iff_iff];omega
 have e4:((4:Int)=k)=(k=4):=by rw[eq_iff_iff];omega
 have e5:((5:Int)=k)=(k=5):=by rw[eq_iff_iff];omega
 have e6:((6:Int)=k)=(k=6):=by rw[eq_iff_iff];omega
 simp[bJ,yH,List.zipIdx,O,U,W,Y,e4,e5,e6]
def Pa(O:Flat z)(U:Flat v)(k)(ok)(m):VR m (yH z k v ok) (yH z k v ok):=by
 have one:∀n,VR m (if k=n then v else z) (if k=n then v else z):=λn=>by split;exact U.refl m;exact O.refl m
 refine VR.mz (dY.cons (.int ..) (.cons (.bool ok) (.cons (one 0) (.cons (one 1) (.cons (one 2) (.cons (one 3) (.cons (one 4) (.cons (one 5) (.cons (one 6) .nil)))))))))
def tR(V:List (Nat×Option (List v?)))(r:Nat)(vs:List v?):List (Nat×Option (List v?)):=V.map λx=>if x.1=r then(r,y? vs)else x
def vI(V:List (Nat×Option (List v?)))(r:Nat):List (Nat×Option (List v?)):=V.filter λx=>x.1≠r
section
variable {P:P?} {E:Env P} {fn:bD} {tm:Array v?} {os:List OF} {wl:w?} {V:List (Nat×Option (List v?))} {k:List Item}
def dk.select{ops i rest o}{x0 x1 x2 x3 x4 x5 x6:Tmp}{cl:Nat->Option Nat}(hi:ops[i]?=y? o)(a3:ef o (b5 ops tm)=t?)
  (av:∀(Y)(w),(bA (kE Y) o).runT P w #[]=(.ok (.comm #[⟨Y.getD x0 gz,x?,z⟩,⟨Y.getD x1 gz,x?,z⟩,⟨Y.getD x2 gz,x?,z⟩,⟨Y.getD x3 gz,x?,z⟩,⟨Y.getD x4 gz,x?,z⟩,⟨Y.getD x5 gz,x?,z⟩,⟨Y.getD x6 gz,x?,z⟩] t? .select) w,#[]))
  (hz:Flat z) (c0:tm.getD x0 gz=.chan (cl 0)) (c1:tm.getD x1 gz=.chan (cl 1)) (c2:tm.getD x2 gz=.chan (cl 2)) (c3:tm.getD x3 gz=.chan (cl 3)) (c4:tm.getD x4 gz=.chan (cl 4)) (c5:tm.getD x5 gz=.chan (cl 5)) (c6:tm.getD x6 gz=.chan (cl 6))
  (lg:∀k r,k<7->cl k=y? r->∃vs,(r,y? vs)∈V) (tJ:∀k k' r,k<7->k'<7->cl k=y? r->cl k'=y? r->k=k') (an:∃k r,k<7/\cl k=y? r) (gH:(V.map Prod.fst).Nodup) (ag:∀r vs,(r,y? vs)∈V->∀v∈vs,Flat v)
  (hv:∀k' r v vs,k'<7->cl k'=y? r->(r,y? (v::vs))∈V->dk E (⟨fn,fq o.dst tm (yH z k' v t?),r? ops rest::k⟩::os) wl (tR V r vs))
  (he:∀k' r,k'<7->cl k'=y? r->(r,y? [])∈V->dk E (⟨fn,fq o.dst tm (yH z k' z f?),r? ops rest::k⟩::os) wl (vI V r)) :
  dk E (⟨fn,tm,r? ops (i::rest)::k⟩::os) wl V:=by
 intro m Pd ρ gs w sl t fr' cs' aw ax aa ay h0
 have a4:∀r a b,(r,a)∈V->(r,b)∈V->a=b:=by
  intro r a b ha hb;clear aa hv he lg ag;induction V with
  |nil=>cases ha
  |cons y V ih=>
   simp only[List.map_cons,List.nodup_cons]at gH;have ah:∀q,(r,q)∈V->y.1≠r:=λq hq e=>gH.1 (e▸cM.2 ⟨(r,q),hq,q?⟩);obtain ea|ha:=cK.1 ha
   obtain eb|hb:=cK.1 hb
   rw[<-ea]at eb;cases eb;rfl;exact absurd (by rw[<-ea]) (ah b hb);obtain eb|hb:=cK.1 hb
   exact absurd (by rw[<-eb]) (ah a ha);exact ih gH.2 ha hb
 cases ay with
 |@cons _ _ Y l ht az=>
  have hy:ef o (b5 ops Y)=t?:=by rw[show b5 ops Y=b5 ops tm from funext (mQ ops ht)];exact a3
  have lS:∀x c,tm.getD x gz=.chan c->Y.getD x gz=.chan (c.bind m.ch):=by
   intro x c hc;have hx:=ht.getD x;simp only at hx;rw[hc]at hx;generalize hq:Y.getD x gz=q at hx
   cases hx with
   |jS=>rfl|chan hb=>simp[hb]
  have d0:=lS x0 _ c0;have d1:=lS x1 _ c1;have d2:=lS x2 _ c2;have d3:=lS x3 _ c3;have d4:=lS x4 _ c4;have d5:=lS x5 _ c5;have d6:=lS x6 _ c6;let chans:Nat->Option Nat:=λk=>(cl k).bind m.ch;let O:Array CommCase:=#[⟨.chan (chans 0),x?,z⟩,⟨.chan (chans 1),x?,z⟩,⟨.chan (chans 2),x?,z⟩,⟨.chan (chans 3),x?,z⟩,⟨.chan (chans 4),x?,z⟩,⟨.chan (chans 5),x?,z⟩,⟨.chan (chans 6),x?,z⟩];have a9:O.size=7:=rfl
  have a0:∀w,(bA (kE Y) o).runT P w #[]=(.ok (.comm O t? .select) w,#[]):=by intro w;rw[av,d0,d1,d2,d3,d4,d5,d6]
  have ai:∀w,bz P t? (G (gU fn Y (r? ops (i::rest)::k)) cs') w=.comm (G (gU fn Y (r? ops (i::rest)::k)) cs') O t? .select w #[]:=by intro w;rw[mY (P:=P) (fn:=fn) (k:=k) (rest:=rest) (cs':=cs') (w:=w) hi hy];unfold en;simp only[if_true,a0];simp[fb,G,gU,bL]
  have U:∀k c,k<7->chans k=y? c->∃r vs j J n,cl k=y? r/\(r,y? vs)∈V/\(ρ j).sum=y? (J,n)/\m.ch r=y? J.c/\J.c=c/\n<=l? J.L/\J.L.drop n=vs/\∀v∈J.L,∀(m:Ren)v',VR m v v'->v'=v:=by
   intro k c hk hc;simp only[chans]at hc
   cases e:cl k with
   |none=>rw[e]at hc;cases hc
   |some r=>rw[e]at hc;simp only[cD]at hc;obtain⟨vs,ab⟩:=lg k r hk e;obtain⟨j,J,n,g1,g2,g3,g4,g5⟩:=aa.all r vs ab;refine⟨r,vs,j,J,n,q?,ab,g1,g2,?_,g3,g4,g5⟩;rw[g2]at hc;exact dc hc
  have aj:∀(j j':Nat)J n J' n',(ρ j).sum=y? (J,n)->(ρ j').sum=y? (J',n')->J.c=J'.c->j=j':=by intro j j' J n J' n' h1 h2 hc;apply de;intro ad;exact ax.cc j j' J J' ad (eY.yQ h1) (eY.yQ h2) hc
  have hS:xL P (G (gU fn Y (r? ops (i::rest)::k)) cs') O chans (λj=>(ρ j).sum):=by
   refine⟨q?,ai,ai,λk cc ac=>?_,λk k' c hk a1 h1 h2=>?_,λk c hk hc=>?_,?_,λj J n hj v hv=>?_⟩;have hk:k<7:=(bk.1 ac).1;refine⟨z,?_⟩;match k,hk with
   |0,_=>simpa[O]using ac.symm|1,_=>simpa[O]using ac.symm|2,_=>simpa[O]using ac.symm|3,_=>simpa[O]using ac.symm|4,_=>simpa[O]using ac.symm|5,_=>simpa[O]using ac.symm|6,_=>simpa[O]using ac.symm
   obtain⟨r,vs,j,J,n,e1,_,_,e2,e3,_⟩:=U k c hk h1;obtain⟨r',vs',j',J',n',a5,_,_,a6,a7,_⟩:=U k' c a1 h2;have:r=r':=m.xu _ _ _ e2 (by rw[a6,a7,e3]);subst this;exact tJ k k' r hk a1 e1 a5;obtain⟨r,vs,j,J,n,_,_,e,_,e3,_⟩:=U k c hk hc;exact⟨j,J,n,e,e3⟩;obtain⟨k,r,hk,hr⟩:=an;obtain⟨vs,ab⟩:=lg k r hk hr;obtain⟨j,J,n,g1,g2,_⟩:=aa.all r vs ab;exact⟨k,J.c,hk,by simp[chans,hr,g2]⟩;obtain⟨r,vs,ab,g2⟩:=aa.only j J n hj;obtain⟨j',J',n',ao,a2,_,_,g5⟩:=aa.all r vs ab;rw[g2]at a2;have:=aj j j' J n J' n' hj ao (dc a2);subst this;rw[hj]at ao;cases ao;exact g5 v hv
  have am:∀(k':Nat)v ok,(G (gU fn Y (r? ops (i::rest)::k)) cs').finishComm P O .select (k':Int) v ok=G (gU fn (fq o.dst Y (yH z k' v ok)) (r? ops rest::k)) cs':=by intro k' v ok;have e:=jV fn Y ops i rest k (yH z k' v ok);simp only[hi,cD]at e;show({(G (gU fn Y (r? ops (i::rest)::k)) cs')with frame:=(gU fn Y (r? ops (i::rest)::k)).finish (bJ O .select (k':Int) v ok),status:=.running,offers:=x?}:Goroutine)=_;rw[QW,e];rfl
  refine Go.Proofs.YtocbogeoffeolaaGreatDoor.select (Z:=E.Z) (N:=gs.size) hS ?_ ?_ ρ gs w sl t ax (λ_=>rfl) h0 rfl;intro k' j J n v hk hc hj hn ρ' gs' w' ap t' ak hK al hN;obtain⟨r,vs,j',J',n',e1,e2,e3,e4,e5,e6,e7,e8⟩:=U k' J.c hk hc;have:=aj j j' J n J' n' hj e3 e5.symm;subst this;rw[hj]at e3;cases e3
  have ab:vs=v::J.L.drop (n+1):=by rw[<-e7];obtain⟨aq,rfl⟩:=cS.1 hn;exact List.drop_eq_getElem_cons aq
  subst ab;rw[am]at al;have a8:=ag r _ e2;refine hv k' r v (J.L.drop (n+1)) hk e1 e2 m Pd ρ' gs' w' ap t' _ _ aw ak ⟨λr2 ae h2=>?_,λj2 J2 n2 h2=>?_,λr2 h2=>?_⟩ (.cons (o:=⟨fn,fq o.dst tm (yH z k' v t?),r? ops rest::k⟩) (ht.fq o.dst (Pa hz (a8 v i!) k' t? m)) az) al;simp only[tR,cM]at h2;obtain⟨y,ar,af⟩:=h2;split at af
  cases af
  have aq:n<l? J.L:=by have:=(cS.1 hn).1;exact this
  exact⟨j,J,n+1,by rw[hK,cH],e4,aq,q?,e8⟩;rename_i ad;subst af;obtain⟨j2,J2,n2,g1,g2,g3⟩:=aa.all r2 ae ar
  have au:j2≠j:=by rintro rfl;rw[hj]at g1;cases g1;exact ad (m.xu _ _ _ g2 e4)
  exact⟨j2,J2,n2,by rw[hK,cI _ _ au];exact g1,g2,g3⟩;rw[hK]at h2;by_cases e:j2=j;subst e;rw[cH]at h2;cases h2;refine⟨r,J.L.drop (n+1),?_,e4⟩;simp only[tR,cM];exact⟨_,e2,i!⟩;rw[cI _ _ e]at h2;obtain⟨r2,ae,g1,g2⟩:=aa.only j2 J2 n2 h2
  have ad:r2≠r:=by rintro rfl;rw[e4]at g2;exact e (aj j2 j J2 n2 J n h2 hj (dc g2).symm)
  refine⟨r2,ae,?_,g2⟩;simp only[tR,cM];exact⟨_,g1,by simp[ad]⟩;simp only[tR,cM]at h2;obtain⟨y,ar,af⟩:=h2;split at af
  cases af;subst af;exact aa.M7 r2 ar;intro k' j J z' W hc hj ρ' gs' w' ap t' ak hK al hN;have hk:k'<7:=(bk.1 W).1;obtain⟨r,vs,j',J',n',e1,e2,e3,e4,e5,e6,e7,e8⟩:=U k' J.c hk hc;have:=aj j j' J _ J' n' hj e3 e5.symm;subst this;rw[hj]at e3;cases e3;have ab:vs=[]:=by rw[<-e7];simp
  subst ab
  have ez:z'=z:=by
   obtain⟨z2,a'⟩:=hS.cs k' _ W;have aA:(bV J.c z').zero=z':=rfl;match k',hk,W with
   |0,_,W=>simp[O,bV]at W;exact W.2.symm|1,_,W=>simp[O,bV]at W;exact W.2.symm|2,_,W=>simp[O,bV]at W;exact W.2.symm|3,_,W=>simp[O,bV]at W;exact W.2.symm|4,_,W=>simp[O,bV]at W;exact W.2.symm|5,_,W=>simp[O,bV]at W;exact W.2.symm|6,_,W=>simp[O,bV]at W;exact W.2.symm
  subst ez;rw[am]at al;refine he k' r hk e1 e2 m Pd ρ' gs' w' ap t' _ _ aw ak ⟨λr2 ae h2=>?_,λj2 J2 n2 h2=>?_,λr2 h2=>?_⟩ (.cons (o:=⟨fn,fq o.dst tm (yH z' k' z' f?),r? ops rest::k⟩) (ht.fq o.dst (Pa hz hz k' f? m)) az) al;simp only[vI,cP,decide_eq_true_eq]at h2;obtain⟨j2,J2,n2,g1,g2,g3⟩:=aa.all r2 ae h2.1
  have au:j2≠j:=by rintro rfl;rw[hj]at g1;cases g1;exact h2.2 (m.xu _ _ _ g2 e4)
  exact⟨j2,J2,n2,by rw[hK,cI _ _ au];exact g1,g2,g3⟩;rw[hK]at h2
  have e:j2≠j:=by rintro rfl;rw[cH]at h2;cases h2
  rw[cI _ _ e]at h2;obtain⟨r2,ae,g1,g2⟩:=aa.only j2 J2 n2 h2
  have ad:r2≠r:=by rintro rfl;rw[e4]at g2;exact e (aj j2 j J2 n2 J _ h2 hj (dc g2).symm)
  refine⟨r2,ae,?_,g2⟩;simp only[vI,cP,decide_eq_true_eq];exact⟨g1,ad⟩;simp only[vI,cP,decide_eq_true_eq]at h2;exact aa.M7 r2 h2.1
end
end
section
open Go.Conc
open Go.ConcN (upd upd_same upd_ne)
def GM:eY->eY
 |.ended _ _ _ _ q=>.quit q|r=>r
section
variable {P:P?} {gu Fix':Nat->Prop} {w0 w0':w?} {Pd:Nat->Prop} {ρ:Nat->eY} {m m':Ren} {wl wl':w?} {gs:Array Goroutine} {w:w?} {t:b6}
def wL{i}(O:(ρ i).sum=x?):∃q,GM (ρ i)=.quit q:=by
 cases e:ρ i with
 |quit q=>exact⟨q,q?⟩|ended U J m S q=>exact⟨q,q?⟩|act=>rw[e]at O;cases O
 |kD=>rw[e]at O;cases O
 |start=>rw[e]at O;cases O
def Co.Pk(h:Co P gu w0 Pd ρ m wl gs w t)(hn:∀i,(ρ i).sum=x?)(hw:WR m' wl' w)(aa:∀b,Fix' b->b<w.1.size/\w.1[b]?=w0'.1[b]?)(hf:∀r b,m'.blk r=y? b->Fix' b->m'.loose r)(ac:w0'.1.size<=w.1.size)(ad:w.os=w0'.os/\w.output=w0'.output)(ab:∀b,b<w0'.1.size->Fix' b\/w0'.1[b]?=y? qq) :
  Co P Fix' w0' (λ_=>False) (λi=>GM (ρ i)) m' wl' gs w t:=by
 have hq:=λi=>wL (hn i)
 have no:∀{α:Type}(f:eY->Option α),(∀q,f _=x?)->∀i x,f (GM _)=y? x->False:=λf hf i x hx=>by obtain⟨q,e⟩:=hq i;rw[e,hf]at hx;cases hx
 refine⟨hw,λi g hi hg=>?_,λi hi=>?_,λi m1 O=>(no _ (λ_=>rfl) i m1 O).elim,λi j m1 m2 _ O _=>(no _ (λ_=>rfl) i m1 O).elim,λi j J1 J2 _ O _=>(no _ (λ_=>rfl) i J1 O).elim,h.calm hn m',λi m1 O=>(no _ (λ_=>rfl) i m1 O).elim,λi J O=>(no _ (λ_=>rfl) i J O).elim,h.low,h.hears,h.lF.mono λi hi=>absurd (hn i) hi,h.clean,aa,hf,λi m1 O=>(no _ (λ_=>rfl) i m1 O).elim,λi J O=>(no _ (λ_=>rfl) i J O).elim,ac,ad,λp a b ha hb _=>.inl (h.calm hn {m' with blk:=λr=>if r=b then y? b else x?,qa:=?_,inj:=?_,loose:=λ_=>False} p a b b ha hb i! nofun),nofun,λb hb=>(ab b hb).imp id .inr⟩;have U:=h.at_ i g hi hg;have W:=hn i
 cases e:ρ i with
 |quit q=>rw[e]at U;exact U|ended hd J m S q=>rw[e]at U;exact U.1|act=>rw[e]at W;cases W
 |kD=>rw[e]at W;cases W
 |start=>rw[e]at W;cases W
 rw[h.out i hi];rfl;intro r r' Y;split at Y
 cases Y;rename_i e;rw[e]
 cases Y;intro r s q Y W;split at Y;split at W;rename_i e1 e2;rw[e1,e2]
 cases W
 cases Y
def Co.old(h:Co P gu w0 Pd ρ m wl gs w t)(hn:∀i,(ρ i).sum=x?)(Y:∀b,w0.1[b]?=y? qq->gu b):∀b,b<w0.1.size->w.1[b]?=w0.1[b]?:=by
 intro b hb;obtain x|⟨i,J,r,o,x1,x2,x3⟩|z:=h.len b hb
 .exact(h.fix b x).2
 rotate_left;exact(h.fix b (Y b z)).2;obtain⟨g,hi,hg,U⟩:=h.get (i:=i) λe=>by rw[e]at x1;cases x1
 have O:=hn i
 cases e:ρ i with
 |quit q=>rw[e]at x1;cases x1
 |act=>rw[e]at O;cases O
 |kD=>rw[e]at O;cases O
 |start=>rw[e]at O;cases O
 |ended hd J' mi S q=>rw[e]at x1 U;cases x1;obtain⟨_,W,⟨aa,ab⟩,ac,_⟩:=U;obtain⟨h1,h2⟩:=ab.back S aa r b o x2;obtain⟨o1,o2,g1,g2,g3⟩:=ac.obj r b (W.nF r b o x2);rw[h1]at g1;cases g1;rw[h2 mi o2 g3]at g2;rw[g2,x3]
def Co.fresh(h:Co P gu w0 Pd ρ m wl gs w t)(U:∀b,w0.1[b]?=y? qq->gu b){r b}(W:m.blk r=y? b)(Y:¬m.loose r):w0.1.size<=b:=by
 apply de;intro hb;obtain x|⟨i,J,r',o,x1,x2,x3⟩|z:=h.len b o!
 .exact Y (h.f0 r b W x)
 rotate_left;exact Y (h.f0 r b W (U b z));obtain⟨g,hi,hg,aa⟩:=h.get (i:=i) λe=>by rw[e]at x1;cases x1
 obtain⟨m1,O⟩:∃m1,(ρ i).oc=y? m1:=by
  cases e:ρ i with
  |quit q=>rw[e]at x1;cases x1
  |act J m S n=>exact⟨m,q?⟩|kD J m S n v=>exact⟨m,q?⟩|start J m S k=>exact⟨m,q?⟩|ended hd J m S q=>exact⟨m,q?⟩
 exact Y (h.d0 i m1 O r r' b W ((aa.Wc O x1).nF r' b o x2)).1
def WR.OE(h:WR m wl w){b c e f}(hb)(hG:wl.1.size<m.G↔b<m.G)(ho:w.1[b]?=y? (.cells c e f))(hc:∀v∈c.toList,Flat v) :
  WR (m.ext wl.1.size b h.ii hb hG) {wl with heap:=wl.1.push (.cells c e f)} w:=by
 have aa:=Ren.xq h.ii hb hG;have ac:OR (m.ext wl.1.size b h.ii hb hG) (.cells c e f) (.cells c e f):=.cells e f f (eP.refl λv hv=>(hc v hv).refl _)
 have key:∀r r',(m.ext wl.1.size b h.ii hb hG).blk r=y? r'->(r=wl.1.size/\r'=b)\/(r≠wl.1.size/\m.blk r=y? r'):=by intro r r' O;by_cases e:r=wl.1.size;subst e;simp[Ren.ext]at O;exact .inl ⟨q?,O.symm⟩;simp[Ren.ext,e]at O;exact .inr ⟨e,O⟩
 have lo:∀r,(m.ext wl.1.size b h.ii hb hG).loose r->r≠wl.1.size/\m.loose r:=by intro r O;by_cases e:r=wl.1.size;subst e;simp[Ren.ext]at O;simp[Ren.ext,e]at O;exact⟨e,O⟩
 have pu:∀r,r<wl.1.size->(wl.1.push (.cells c e f))[r]?=wl.1[r]?:=λr O=>fw O;refine⟨λr r' O=>?_,λr r' c1 e1 f1 c2 e2 f2 O h1 h2 hn=>?_,λr r' c1 e1 f1 c2 e2 f2 O h1 h2 hl=>?_,λr r' O=>?_,?_,h.KV,h.os,λr o O=>?_,λr r' O hl=>?_,λr O=>?_,λr i v hv=>?_⟩;obtain⟨rfl,rfl⟩|⟨_,O⟩:=key r r' O
 exact⟨_,_,i!,ho,ac⟩;obtain⟨o,o',Y,g2,g3⟩:=h.obj r r' O;exact⟨o,o',jJ Y,g2,g3.mono aa⟩;obtain⟨rfl,rfl⟩|⟨U,O⟩:=key r r' O
 rw[ho]at h2;cases h2;simp at h1;exact h1.2.2;have W:=(h.lt O).1;refine h.fz r r' c1 e1 f1 c2 e2 f2 O (by rw[<-pu r W];exact h1) h2 λx=>hn ?_;simp[Ren.ext,U,x];obtain⟨rfl,rfl⟩|⟨U,O⟩:=key r r' O
 exact absurd q? (lo _ hl).1;have W:=(h.lt O).1;exact h.all r r' c1 e1 f1 c2 e2 f2 O (by rw[<-pu r W];exact h1) h2 (lo _ hl).2;have:=h.NO r r' O;exact⟨j!,this.2⟩;have:=h.NJ;show m.G<=(wl.1.push _).size;simp;omega;obtain⟨Y,g2⟩:=h.lS r o O;exact⟨jJ Y,g2⟩;obtain⟨rfl,rfl⟩|⟨U,O⟩:=key r r' O
 exact absurd q? (lo _ hl).1;obtain⟨c1,e1,f1,g⟩:=h.lk r r' O (lo _ hl).2;exact⟨c1,e1,f1,jJ g⟩;obtain⟨Y,c1,f1,g⟩:=h.dead r O;have W:=lh g;refine⟨?_,c1,f1,jJ g⟩;have U:r≠wl.1.size:=o!;simp[Ren.ext,U,Y];obtain⟨r',ab,hp⟩:=h.tK r i v hv;exact⟨r',aa.blk _ _ ab,λc e f c' e' f' x Y=>hp c e f c' e' f' x (by rw[<-pu r (h.lt ab).1];exact Y)⟩
end
end
section
open Go.Conc
open Go.ConcN (upd upd_same upd_ne)
variable {ops:Array Oper} {f:bD} {R0:Nat->Nat->Prop} {R1:Nat->Option Nat->Nat->Nat->Array v?->bI->Nat×Nat->Prop} {m:Ren}
section
variable {P:P?} {E:Env P} {fn:bD} {tm:Array v?} {os:List OF} {wl:w?} {k:List Item}
def Rg.OE(h:Rg E m){r b}(h1)(h2)(h3):Rg E (m.ext r b h1 h2 h3):=by have O:=Ren.xq h1 h2 h3;exact⟨h.qR.mono O,h.jf,λs s' U=>h.nT s s' U,O.gE.trans h.gE,O.ok.trans h.U0,E.le m _ O h.x⟩
def Jq{c c'}(h:eP m c c')(O:∀v∈c.toList,Flat v):c'=c:=by refine bx h.size.symm λi U W=>?_;have:=h.idx i W U;exact(O _ i!).eq m _ this
structure BH(P:P?)(E₂:Env P)(iD:Func)(tm1:Array v?)(wl2:w?)(R0:Nat->Nat->Prop)(R1:Nat->Option Nat->Nat->Nat->Array v?->bI->Nat×Nat->Prop):Prop where
 QM:∃v1,(∀τ,(bK iD tm1).run P (tp wl2 τ)=.ok v1 (tp wl2 τ))/\((∃l cp,v1=.slice none l cp/\R0 l cp)\/∃b1 off spot l cp cs e f,v1=.slice (some ⟨b1,off,spot⟩) l cp/\wl2.1[b1]?=some (.cells cs e f)/\(∀v∈cs.toList,Flat v)/\(∀m,Rg E₂ m->¬m.loose b1)/\e≠0/\R1 off spot l cp cs e f)
 Wy:∀b,E₂.w0.1[b]?=some qq->E₂.gu b
def Lz{E₂:Env P}{iD i rest o}{m0:Ren}{O l' tm1}{td1:List Item}{aa}
  (ap:∀b,b<E.w0.1.size->E.gu b\/E.w0.1[b]?=y? qq) (Y:∀b,E.gu b->b<E₂.w0.1.size/\E₂.w0.1[b]?=E.w0.1[b]?) (ay:∀r b,m0.blk r=y? b->E.gu b->m0.loose r) (az:E.w0.1.size<=E₂.w0.1.size) (aj:E₂.w0.os=E.w0.os/\E₂.w0.output=E.w0.output) (hZ:E₂.Z=E.Z) (hT:E₂.T=gU fn O (r? ops (i::rest)::k)::l') (ak:Rg E m0) (af:WR m0 wl E₂.w0) (ht:eP m0 tm O) (a0:pC m0 E.T os l') (hf:P.funcs[f]?=y? iD) (hi:ops[i]?=y? o) (aE:td1=[]\/∃k1,td1=.code .ret::k1) (hR:BH P E₂ iD tm1 aa R0 R1)
  (aF:∀l cp,R0 l cp->dk E (⟨fn,fq o.dst tm (.slice x? l cp),r? ops rest::k⟩::os) wl [])
  (aG:∀off spot l cp cs e f,R1 off spot l cp cs e f->(∀v∈cs.toList,Flat v)->dk E (⟨fn,fq o.dst tm (.slice (y? ⟨wl.1.size,off,spot⟩) l cp),r? ops rest::k⟩::os) {wl with heap:=wl.1.push (c? cs e f)} []) :
  dk E₂ [⟨f,tm1,td1⟩] aa []:=by
 intro m Pd ρ gs w sl t fr' cs' aH aI aJ ag h0
 have hn:∀i,(ρ i).sum=x?:=by
  intro i
  cases e:(ρ i).sum with
  |none=>rfl|some x=>obtain⟨r,vs,hx,_⟩:=aJ.only i x.1 x.2 e;cases hx
 refine turn (Z:=E₂.Z) (a:=G fr' cs') (K:=λj=>(ρ j).sum) (N:=gs.size) q? ?_ ρ gs w sl t aI (λ_=>rfl) h0 rfl;intro ρ' gs' w' aX a1 d t' ah hK ai hN
 cases ag with
 |@cons _ _ W l aK ag=>
  cases ag;rw[hT]at ai
  have aL:bz P t? (G (gU f W td1) (gU fn O (r? ops (i::rest)::k)::l')) (w'.at d)=.go (G ⟨f,W,td1,[],.returning,.normal,x?⟩ (gU fn O (r? ops (i::rest)::k)::l')) (w'.at d) #[]:=by obtain rfl|⟨k1,rfl⟩:=aE<;>rfl
  have a2:=bT (P:=P) (sl:=a1) (i:=0) ai (show bz P (0==0) _ (w'.at d)=_ from aL);rw[a2];refine E₂.Z.next _ _ _ _ ?_;have aM:0<gs'.size:=(bk.1 ai).1;refine turn (Z:=E₂.Z) (a:=G ⟨f,W,td1,[],.returning,.normal,x?⟩ (gU fn O (r? ops (i::rest)::k)::l')) (K:=λj=>(ρ' j).sum) (N:=gs'.size) q? ?_ ρ' _ _ a1 _ (ah.ym (gs':=(gs'.map (woken P _ _ (w'.at d))).setIfInBounds 0 (G ⟨f,W,td1,[],.returning,.normal,x?⟩ (gU fn O (r? ops (i::rest)::k)::l'))) (.refl m) (.refl m _) i! ah.main i! (ir _)) (λ_=>rfl) (by simp[aM]) i!;clear ah a2 ai;intro aq a3 w2 aY ar d2 t2 al aN a4 aZ;obtain⟨v1,a5,au⟩:=hR.QM;have a6:=(mX (P:=P) (fn:=iD) aK).run (tp aa (along aa (w2.at d2))) (w2.at d2) #[] (al.main.tp _) (.inl (qf aa (w2.at d2)));rw[a5]at a6;obtain⟨dA,v',w₁,es₁,e1,e2,e3,e4,_,e6,e7⟩:=a6;rw[bs]at e1;have am:=jV fn O ops i rest k v';simp only[hi,cD]at am
  have a7:bz P t? (G ⟨f,W,td1,[],.returning,.normal,x?⟩ (gU fn O (r? ops (i::rest)::k)::l')) (w2.at d2)=.go (G (gU fn (fq o.dst O v') (r? ops rest::k)) l') w₁ (bL P f es₁):=by have:bz P t? (G ⟨f,W,td1,[],.returning,.normal,x?⟩ (gU fn O (r? ops (i::rest)::k)::l')) (w2.at d2)=b7 P t? ⟨f,W,td1,[],.returning,.normal,x?⟩ (gU fn O (r? ops (i::rest)::k)::l') x? (w2.at d2):=rfl;rw[this];unfold b7;simp only[hf,e1];unfold bG;simp only[am];simp[fb,G]
  have a8:=bT (P:=P) (sl:=ar) (i:=0) a4 (show bz P (0==0) _ (w2.at d2)=_ from a7);rw[a8];refine E₂.Z.next _ _ _ _ ?_;rw[hZ];have an:0<a3.size:=(bk.1 a4).1;have U:=al.ym (gs':=(a3.map (woken P (G ⟨f,W,td1,[],.returning,.normal,x?⟩ (gU fn O (r? ops (i::rest)::k)::l')) (G (gU fn (fq o.dst O v') (r? ops rest::k)) l') w₁)).setIfInBounds 0 (G (gU fn (fq o.dst O v') (r? ops rest::k)) l')) (fn:=(G (⟨f,W,td1,[],.returning,.normal,x?⟩:Frame) (gU fn O (r? ops (i::rest)::k)::l')).frame.fn) (pos:=(G (⟨f,W,td1,[],.returning,.normal,x?⟩:Frame) (gU fn O (r? ops (i::rest)::k)::l')).frame.place) (es:=bL P f es₁) e2 e6 (λe he=>e7 e (cj he)) e4 i! (ir _);have av:∀i,(aq i).sum=x?:=λi=>(aN i).trans ((hK i).trans (hn i));have hold:=U.old av hR.Wy;have ab:WR m0 wl w₁:=af.rely (λr b hb=>hold b (af.lt hb).2) U.sz U.os.1;have ac:=aH.le e2 e6;have calm:∀m' wl',WR m' wl' w₁->(∀r b,m'.blk r=y? b->E.gu b->m'.loose r)->Co P E.gu E.w0 (λ_=>False) (λi=>GM (aq i)) m' wl' _ w₁ _:=λm' wl' hw hf=>U.Pk av hw (λb hb=>⟨cV (Y b hb).1 U.sz,(hold b (Y b hb).1).trans (Y b hb).2⟩) hf (cX az U.sz) ⟨U.os.1.trans aj.1,U.os.2.trans aj.2⟩ ap
  have nT:∀m',Tj m' (λi=>GM (aq i)) (λ_=>False) []:=λm'=>by refine⟨λr vs hr=>(by cases hr),λj J n hj=>?_,λr hr=>(by cases hr)⟩;obtain⟨q,e⟩:=wL (av j);rw[e]at hj;cases hj
  obtain⟨l,cp,rfl,aO⟩|⟨b1,off,spot,l,cp,cs,ty,fz,rfl,a9,aw,ad,aP,aQ⟩:=au
  cases e3 with
  |gq=>exact aF l cp aO m0 _ _ _ _ ar _ _ _ ak (calm m0 wl ab ay) (nT m0) (.cons (o:=⟨fn,fq o.dst tm (.slice x? l cp),r? ops rest::k⟩) (ht.fq o.dst (.gq l cp)) a0) (by simp[an])
  cases e3 with
  |zero _ hd=>obtain⟨_,c0,f0,g0⟩:=e4.dead b1 hd;exact absurd (Obj.cells.inj (dc ((show aa.1[b1]?=y? (c? c0 0 f0)from g0).symm.trans a9))).2.1.symm aP
  |@slice _ a' _ _ ha=>
   cases ha with
   |@mk _ b' _ _ ax=>
    obtain⟨o1,o2,g1,g2,g3⟩:=e4.obj b1 b' ax;have ao:(tp aa (along aa (w2.at d2))).1[b1]?=y? (c? cs ty fz):=a9;rw[ao]at g1;cases g1
    cases g3 with
    |@cells _ cs' _ _ aA aR=>
     have aS:=Jq aR aw;subst aS;have aT:aA=fz:=e4.fz b1 b' _ _ _ _ _ _ ax ao g2 (ad dA ac);subst aT;have aD:E₂.w0.1.size<=b':=U.fresh hR.Wy ax (ad dA ac)
     have ae:∀s,m0.blk s≠y? b':=λs hs=>by have:=(af.lt hs).2;omega
     have hG:wl.1.size<m0.G↔b'<m0.G:=by have h1:=af.NJ;have h2:=af.KV;constructor<;>intro x<;>omega
     have aU:=ab.OE ae hG g2 aw;have aB:=Ren.xq ab.ii ae hG
     have aV:∀r b,(m0.ext wl.1.size b' ab.ii ae hG).blk r=y? b->E.gu b->(m0.ext wl.1.size b' ab.ii ae hG).loose r:=λr b hr hF=>by
      by_cases e:r=wl.1.size;subst e;simp[Ren.ext]at hr;have:=(Y b hF).1;omega;have aW:m0.blk r=y? b:=by simpa[Ren.ext,e]using hr
      have:=ay r b aW hF;simpa[Ren.ext,e]using this
     have aC:(m0.ext wl.1.size b' ab.ii ae hG).blk wl.1.size=y? b':=by simp[Ren.ext]
     exact aG off spot l cp cs' ty aA aQ aw _ _ _ _ _ ar _ _ _ (ak.OE ab.ii ae hG) (calm _ _ aU aV) (nT _) (.cons (o:=⟨fn,fq o.dst tm (.slice (y? ⟨wl.1.size,off,spot⟩) l cp),r? ops rest::k⟩) ((ht.mono aB).fq o.dst (.slice l cp (.mk aC))) (a0.mono aB)) (by simp[an])
def dk.phase{i:Nat}{rest:List Nat}{o:Oper}{iD:Func}{c:Code}{ars:Array Operand}{ts:Array bI}
  (af:∀b,b<E.w0.1.size->E.gu b\/E.w0.1[b]?=y? qq) (hi:ops[i]?=y? o) (au:ef o (b5 ops tm)=t?) (hf:P.funcs[f]?=y? iD) (hb:iD.body=y? c) (hn:iD.name≠ "runtime.NumGoroutine") (ho:o.op=.call {callee:=.value (.func f),args:=ars,argTypes:=ts}) (av:∀x∈ars.toList,e9 E.gE E.gl x)
  (hph:∀m w ad T,Rg E m->WR m wl w->eP m (ars.map (kE tm)) ad->(∀ps,T=[ps]->ps.mode≠.panicking [b8])->∃(U:Env P)(tm1:Array v?)(m1:Ren)(Y:w?),U.Z=E.Z/\U.T=T/\U.w0=w/\(∀b,U.gu b↔b<w.1.size)/\Rg U m1/\WR m1 Y w/\(∀r b,m1.blk r=y? b->m1.loose r)/\eP m1 tm1 (ad++bm (iD.ntmps-ars.size) gz)/\
    ((∀(E₂:Env P)ag aa ah,E₂.Z=E.Z->E₂.T=T->E₂.w0=w->(aa=[]\/∃k2,aa=.code .ret::k2)->BH P E₂ iD ag ah R0 R1->dk E₂ [⟨f,ag,aa⟩] ah [])->dk U [⟨f,tm1,[.code c]⟩] Y []))
  (aw:∀l cp,R0 l cp->dk E (⟨fn,fq o.dst tm (.slice x? l cp),r? ops rest::k⟩::os) wl [])
  (ax:∀off spot l cp cs e f,R1 off spot l cp cs e f->(∀v∈cs.toList,Flat v)->dk E (⟨fn,fq o.dst tm (.slice (y? ⟨wl.1.size,off,spot⟩) l cp),r? ops rest::k⟩::os) {wl with heap:=wl.1.push (c? cs e f)} []) :
  dk E (⟨fn,tm,r? ops (i::rest)::k⟩::os) wl []:=by
 intro m Pd ρ gs w sl t fr' cs' ab ay az ae h0
 have a0:∀i,(ρ i).sum=x?:=by
  intro i
  cases e:(ρ i).sum with
  |none=>rfl|some x=>obtain⟨r,vs,hx,_⟩:=az.only i x.1 x.2 e;cases hx
 refine turn (Z:=E.Z) (a:=G fr' cs') (K:=λj=>(ρ j).sum) (N:=gs.size) q? ?_ ρ gs w sl t ay (λ_=>rfl) h0 rfl;intro ρ' gs' w' aC aj d t' W hK ak hN;have a1:=ae
 cases ae with
 |@cons _ _ O l ht a2=>
  have hy:ef o (b5 ops O)=t?:=by rw[show b5 ops O=b5 ops tm from funext (mQ ops ht)];exact au
  have a3:=mY (P:=P) (fn:=fn) (k:=k) (rest:=rest) (cs':=cs') (w:=w'.at d) hi hy;have al:=G' P hf hb hn (kE O) q? ho (w'.at d);have ha:eP m (ars.map (kE tm)) (ars.map (kE O)):=lC (gE:=m.gE) (gl:=E.gl) (λx hx=>Ki ht ab.qR.qa x hx) (λx hx=>by rw[ab.gE];exact av x hx)
  have a4:en P t? (gU fn O (r? ops (i::rest)::k)) cs' x? (bA (kE O) o) (w'.at d)=.go (G (gU f (ars.map (kE O)++bm (iD.ntmps-ars.size) gz) [.code c]) (gU fn O (r? ops (i::rest)::k)::cs')) (w'.at d) #[]:=by unfold en;simp only[if_true,al];simp[fb,G,gU,gc,hf,hb,bL]
  have a5:=bT (P:=P) (sl:=aj) (i:=0) ak (show bz P (0==0) _ (w'.at d)=_ from a3.trans a4);rw[a5];refine E.Z.next _ _ _ _ ?_;have a6:0<gs'.size:=(bk.1 ak).1
  have ai:∀ps,(gU fn O (r? ops (i::rest)::k)::cs')=[ps]->ps.mode≠.panicking [b8]:=by rintro ps e;cases e;simp[gU]
  obtain⟨U,tm1,m1,Y,a7,a8,ac,am,a9,an,a',aA,ao⟩:=hph m (w'.at d) (ars.map (kE O)) (gU fn O (r? ops (i::rest)::k)::cs') ab W.main ha ai;have ap:∀i,(ρ' i).sum=x?:=λi=>(hK i).trans (a0 i);have aq:=W.ym (gs':=(gs'.map (woken P (G (gU fn O (r? ops (i::rest)::k)) cs') (G (gU f (ars.map (kE O)++bm (iD.ntmps-ars.size) gz) [.code c]) (gU fn O (r? ops (i::rest)::k)::cs')) _)).setIfInBounds 0 _) (fn:=(G (gU fn O (r? ops (i::rest)::k)) cs').frame.fn) (pos:=(G (gU fn O (r? ops (i::rest)::k)) cs').frame.place) (es:=#[]) (.refl m) (.refl m _) i! W.main i! (ir _);have ar:Co P _ U.w0 _ _ m1 Y _ _ _:=aq.Pk ap an (λb hb=>by rw[ac];exact⟨(am b).1 hb,q?⟩) (λr b hr _=>a' r b hr) (by rw[ac];exact cW _) (by rw[ac];exact⟨q?,q?⟩) (λb hb=>.inl ((am b).2 (by rw[ac]at hb;exact hb)));rw[<-a7];refine ao ?_ m1 _ _ _ _ aj _ _ _ a9 ar ⟨λr vs hr=>(by cases hr),λj J n hj=>?_,λr hr=>(by cases hr)⟩ (.cons (o:=⟨f,tm1,[.code c]⟩) aA (by rw[a8];exact .nil)) (by simp[a6]);intro E₂ ag aa ah z2 T2 W2 aB hR;exact Lz af (λb hb=>by rw[W2];exact W.fix b hb) W.f0 (by rw[W2];exact W.sz) (by rw[W2];exact W.os) z2 T2 ab (by rw[W2];exact W.main) ht a2 hf hi aB hR aw ax;obtain⟨q,e⟩:=wL (ap j);rw[e]at hj;cases hj
end
end
section
open Go.Conc
variable {T:Tables} {d:TypeDesc} {t:bI} {info:bI->Option TypeInfo} {i:TypeInfo} {v:v?}
def NY:v?->Bool
 |.bool _|n? _ _|s? _|p? x?|.slice x? _ _|.map x?|.chan x?|.nilFunc|.nilIface=>t?|_=>f?
def DM(h:NY v=t?):Plain v:=by unfold NY at h;split at h<;>first|trivial|cases h
def Tm(gE gl:Nat->Bool):Operand->Bool
 |.tmp _=>t?|.const v=>NY v|.global g=>gl g|.func f=>gE f
def Qp{gE gl x}(h:Tm gE gl x=t?):e9 (λf=>gE f=t?) (λg=>gl g=t?) x:=by
 cases x with
 |tmp t=>trivial|const v=>exact DM h|global g=>exact h|func f=>exact h
def GU:Operand->Bool
 |.tmp _=>t?|.const v=>NY v|_=>f?
def PY(P:P?)(st:Bool)(O:Array bI)(n:Nat):Builtin->Bool
 |.append|.clear|.copy|.max|.min|.recover=>t?|.cap|.len=>(O[0]?).all (sX P)|.unsafeString=>st&&n==2|_=>f?
def U9(P:P?)(st:Bool)(t:bI):Bool:=match P.underlying t with
 |some (.map k _)=>rU P 10000 k&&(st || pD P Op.maxDepth k)
 |_=>t?
def VS(P:P?)(st:Bool)(t:bI)(y:Operand):Bool:=st || pD P Op.maxDepth t || (isNil y&&match P.underlying t with|some (.pointer _)|some (.interface _)|none=>t?|_=>f?)
def GN(P:P?)(gE gl:Nat->Bool)(st:Bool)(op:Op):Bool:=
 op.operands.all (Tm gE gl)&&match op with
 |.move _|.assign _|.pick ..|.alloc _|.box ..|.build ..|.buildSlice ..|.load ..|.store ..|.nilCheck _|.unOp ..|.makeInterface ..|.makeMap ..|.makeSlice ..|.slice ..|.fieldAddr ..|.field ..|.indexAddr ..|.index ..|.entryStore ..|.range ..|.next ..|.entry _|.extract ..|.panic _|.send .. => t?|.binOp o t _ y _=>(match o with|.eql|.neq=>VS P st t y|_=>t?)
 |.convert s d _=>Du P s d|.makeFunc (.func f) _ _=>gE f|.lookup t ..|.mapUpdate t ..|.mapEntry t .. => U9 P st t|.typeAssert _ _ _ ok=>ok|.call c=>(match c.callee with
  |.value _=>t?|.builtin b=>PY P st c.argTypes c.args.size b|.invoke .. => f?)
 |.defer c=>(match c.callee with
  |.value _=>t?|_=>f?)
 |_=>f?
def ll(ok:Oper->Bool):Code->Bool
 |.skip|.exit _|.label _|.goto _|.ret=>t?|.region _ ops _=>ops.all ok|.seq a b=>ll ok a&&ll ok b|.cond c a b=>GU c&&ll ok a&&ll ok b|.block _ c|.loop c|.scope c=>ll ok c|.rangeFunc f _ a b=>GU f&&ll ok a&&ll ok b|.refuse _=>f?
section
variable {P:P?} {gE gl:Nat->Bool} {st:Bool}
def SY(h:U9 P st t=t?):PU P st t:=by intro k e O;unfold U9 at h;rw[O]at h;simp only[dl,dw]at h;exact h
def Ui{y}(h:VS P st t y=t?):V0 P st t y:=by
 unfold VS at h;simp only[dw,dl]at h;rcases h with(h|h)|⟨U,O⟩
 exact .inl h;exact .inr (.inl h);refine .inr (.inr ⟨U,λd W=>?_⟩);rw[W]at O;cases d<;>first|exact .inl ⟨_,q?⟩|exact .inr ⟨_,q?⟩|cases O
def xb{op}(h:GN P gE gl st op=t?):OkOp P (λf=>gE f=t?) (λg=>gl g=t?) st op:=by
 unfold GN at h;rw[dl]at h;obtain⟨W,O⟩:=h;refine⟨λx Y=>Qp ?_,?_⟩;rw[bp]at W;rw[bo]at Y;obtain⟨i,hi,rfl⟩:=bn.1 Y;exact W i hi
 cases op with
 |binOp o t x y s=>rintro(rfl|rfl)<;>exact Ui O
 |convert s d x=>exact O|makeFunc f a b=>cases f<;>first|exact O|cases O
 |lookup|mapUpdate|mapEntry=>exact SY O|typeAssert=>exact O|call c=>
  obtain⟨ce,ars,ts⟩:=c
  cases ce with
  |value x=>trivial|invoke=>cases O
  |builtin b=>
   refine⟨?_,by rintro rfl;cases O⟩;cases b<;>first|trivial|cases O|skip
   intro t U;have O:(ts[0]?).all _=t?:=O;rw[U]at O;exact O;intro t U;have O:(ts[0]?).all _=t?:=O;rw[U]at O;exact O;have O:(st&&ars.size==2)=t?:=O;show st=t?/\ars.size=2;simpa using O
 |defer c=>obtain⟨ce,ars,ts⟩:=c;cases ce<;>first|trivial|cases O
 |_=>first|trivial|cases O
def qE{ok}:∀{c},ll ok c=t?->gG (λo=>ok o=t?) c:=by
 have O:∀{x:Operand},GU x=t?->wH x:=fun {x} h=>by
  cases x with
  |tmp t=>trivial|const v=>exact DM h|global g=>cases h
  |func f=>cases h
 intro c;induction c with
 |skip|exit|label|goto|ret=>intro _;trivial|region i ops d=>intro h o ho;have h:ops.all ok=t?:=h;rw[bp]at h;rw[bo]at ho;obtain⟨i,hi,rfl⟩:=bn.1 ho;exact h i hi
 |seq a b U W=>intro h;have h:(ll ok a&&ll ok b)=t?:=h;rw[dl]at h;exact⟨U h.1,W h.2⟩
 |cond x a b U W=>intro h;have h:(GU x&&ll ok a&&ll ok b)=t?:=h;simp only[dl]at h;exact⟨O h.1.1,U h.1.2,W h.2⟩
 |block i c Y=>exact λh=>Y h|loop c Y=>exact λh=>Y h|scope c Y=>exact λh=>Y h|rangeFunc f ps a b U W=>intro h;have h:(GU f&&ll ok a&&ll ok b)=t?:=h;simp only[dl]at h;exact⟨O h.1.1,U h.1.2,W h.2⟩
 |refuse=>intro h;cases h
end
def G3:Nat->v?->Bool
 |0,_=>f?|n+1,v=>match v with
  |.agg c=>c.all (G3 n)|.tuple c=>c.all (G3 n)|v=>NY v
def A8:∀{n v},G3 n v=t?->∀m,VR m v v
 |n+1,v,h,m=>by unfold G3 at h;split at h;rw[bp]at h;exact .agg q? λi O _=>A8 (h i O) m;rw[bp]at h;exact .tuple q? λi O _=>A8 (h i O) m;exact VR.plain (DM h)
def BN{Y O:Type}{I:O->Prop}{f:Y->O->Option (ForInStep O)}(hf:∀a s r,f a s=y? r->I s->∃s',(r=.yield s'\/r=.done s')/\I s'):∀(l:List Y){s s'},I s->forIn l s f=y? s'->I s'
 |[],s,s',h,e=>by simp at e;exact e▸h
 |a::l,s,s',h,e=>by
  rw[List.forIn_cons]at e
  cases U:f a s with
  |none=>rw[U]at e;cases e
  |some r=>
   rw[U]at e
   obtain⟨s1,W|W,h2⟩:=hf a s r U h
   subst W;exact BN hf l h2 e;subst W;have:=e;cases this;exact h2
def mK(v:v?):Prop:=∀m,VR m v v
def mK.cells(h:mK v):∀x∈v.cells.toList,mK x:=by intro x O m;have W:=(h m).cells;rw[bo]at O;obtain⟨i,U,rfl⟩:=bn.1 O;exact W.idx i U U
def mK.agg{c:Array v?}(h:∀x∈c.toList,mK x):mK (.agg c):=λm=>.agg q? λi O _=>h _ i! m
def vE(ac:∀t i v,info t=y? i->i.zero=y? v->mK v){fs}(h:dS info fs=y? i)(hv:i.zero=y? v):mK v:=by
 unfold dS at h;simp only[cC,cB]at h;obtain⟨st,W,U⟩:=h;rw[<-Array.forIn_toList]at W
 have hI:=BN (I:=λs:Array Field×Nat×Nat×Nat×Nat×Bool×Bool×Option (Array v?)×String=>∀zs,s.2.2.2.2.2.2.2.1=y? zs->∀x∈zs.toList,mK x) (λa s r Y hs=>by
  cases hi:info a.type with
  |none=>rw[hi]at Y;cases Y
  |some j=>
   have aa:∀zs,(s.2.2.2.2.2.2.2.1.bind λz1=>j.zero.bind λz2=>pure (z1++z2.cells))=y? zs->∀x∈zs.toList,mK x:=by intro zs O;rw[cB]at O;obtain⟨z1,e1,O⟩:=O;rw[cB]at O;obtain⟨z2,e2,O⟩:=O;cases O;intro x hx;rw[Array.toList_append,List.mem_append]at hx;exact hx.elim (hs z1 e1 x) ((ac a.type j z2 hi e2).cells x)
   have ab:∀zs,(x?:Option (Array v?))=y? zs->∀x∈zs.toList,mK x:=λzs O=>by cases O
   have key:∀zs,(if s.2.1+j.size > Made.mostCells then x? else s.2.2.2.2.2.2.2.1.bind λz1=>j.zero.bind λz2=>pure (z1++z2.cells))=y? zs->∀x∈zs.toList,mK x:=by
    intro zs O;split at O
    cases O;exact aa zs O
   rw[hi]at Y;simp only[cD]at Y
   repeat' split at Y
   all_goals first
    |(cases Y;done)
    |(simp only[cB]at Y
      obtain⟨tg,_,Y⟩:=Y
      cases Y
      first|exact⟨_,.inl q?,ab⟩|exact⟨_,.inl q?,aa⟩|exact⟨_,.inl q?,key⟩)
    |(cases Y;first|exact⟨_,.inl q?,ab⟩|exact⟨_,.inl q?,aa⟩|exact⟨_,.inl q?,key⟩)) fs.toList (s:=(#[],0,0,1,0,f?,t?,y? #[],"struct {")) (by
   intro zs O x hx;cases O
   simp at hx) W
 have O:∃zs,st.2.2.2.2.2.2.2.1=y? zs/\v=.agg zs:=by
  split at U
  cases U;simp only[cE]at hv;obtain⟨zs,h1,h2⟩:=hv;exact⟨zs,h1,h2.symm⟩
  cases U;simp only[cE]at hv;obtain⟨zs,h1,h2⟩:=hv;exact⟨zs,h1,h2.symm⟩
 obtain⟨zs,h1,rfl⟩:=O;exact .agg (hI zs h1)
def EE(W:∀t i v,info t=y? i->i.zero=y? v->mK v)(h:dN info d=y? i)(U:i.zero=y? v):mK v:=by
 have O:∀(d:TypeDesc)(s:String)(z:v?)(c:Bool)(n:Nat),(Made.word d s z c n).zero=y? v->Plain z->mK v:=by intro d s z c n e hz;cases e;exact λm=>VR.plain hz
 cases d with
 |struct fs=>exact vE W h U|pointer e=>
  simp only[dN,cC,cB]at h;obtain⟨j,_,h⟩:=h;split at h
  cases h;split at h
  cases h;simp only[cB]at h;obtain⟨s,_,h⟩:=h;cases h;exact O _ _ _ _ _ U trivial;simp only[cB]at h;obtain⟨s,_,h⟩:=h;cases h;exact O _ _ _ _ _ U trivial
 |slice e=>simp only[dN,cC,cB]at h;obtain⟨_,_,_,_,h⟩:=h;cases h;exact O _ _ _ _ _ U trivial
 |map k e=>simp only[dN,cC,cB]at h;obtain⟨_,_,_,_,_,_,_,_,h⟩:=h;cases h;exact O _ _ _ _ _ U trivial
 |chan dr e=>simp only[dN,cC,cB]at h;obtain⟨_,_,_,_,h⟩:=h;cases h;exact O _ _ _ _ _ U trivial
 |func ps rs b=>simp only[dN,cC,cB]at h;obtain⟨_,_,h⟩:=h;cases h;exact O _ _ _ _ _ U trivial
 |array n e=>
  simp only[dN,cC,cB]at h;obtain⟨j,hj,_,_,h⟩:=h;cases h;split at U
  cases U;split at U
  cases U;exact .agg i!;rw[cE]at U;obtain⟨z,h1,rfl⟩:=U;refine .agg λx Y=>?_;have hz:=(W e j z hj h1).cells;simp only[bo,Array.mem_flatten,Array.mem_replicate]at Y;obtain⟨xs,⟨_,rfl⟩,Y⟩:=Y;exact hz x (bo.2 Y)
 |_=>cases h
def xD(hT:∀(t:Nat)(i)v,T.types[t]?=y? i->i.zero=y? v->mK v):∀(f)t i v,ee T f t=y? i->i.zero=y? v->mK v
 |0,_,_,_,h,_=>by cases h
 |f+1,t,i,v,h,O=>by
  unfold ee at h
  split at h
  .exact hT t i v h O
  .rw[cB]at h
   obtain⟨d,_,h⟩:=h
   exact EE (xD hT f) h O
def A3(h:dN info d=y? i):i.methods=#[]:=by
 cases d with
 |struct U=>have h:dS info U=y? i:=h;unfold dS at h;simp only[cC,cB]at h;obtain⟨st,O,h⟩:=h;split at h <;>(cases h;rfl)
 |pointer e=>
  simp only[dN,cC,cB]at h;obtain⟨j,_,h⟩:=h;split at h
  cases h;split at h
  cases h;simp only[cB]at h;obtain⟨s,_,h⟩:=h;cases h;rfl;simp only[cB]at h;obtain⟨s,_,h⟩:=h;cases h;rfl
 |slice e=>simp only[dN,cC,cB]at h;obtain⟨_,_,_,_,h⟩:=h;cases h;rfl
 |map k e=>simp only[dN,cC,cB]at h;obtain⟨_,_,_,_,_,_,_,_,h⟩:=h;cases h;rfl
 |chan W e=>simp only[dN,cC,cB]at h;obtain⟨_,_,_,_,h⟩:=h;cases h;rfl
 |func ps rs b=>simp only[dN,cC,cB]at h;obtain⟨_,_,h⟩:=h;cases h;rfl
 |array n e=>simp only[dN,cC,cB]at h;obtain⟨j,Y,_,_,h⟩:=h;cases h;rfl
 |_=>cases h
def Ik(hT:∀(t:Nat)(i),T.types[t]?=y? i->i.methods.find? (·.name == "")=x?):∀(f)t i,ee T f t=y? i->i.methods.find? (·.name == "")=x?
 |0,_,_,h=>by cases h
 |f+1,t,i,h=>by
  unfold ee at h
  split at h
  .exact hT t i h
  .rw[cB]at h
   obtain⟨d,_,h⟩:=h
   rw[A3 h];rfl
def uT(p)(a):bX #[] p≠y? a:=by simp[bX,gn]
def IP{P}{E:Env P}{Post f iD c args largs}{W wl:w?}{m:Ren}(hZ:E.Z=ending P Post)(U:∀b,E.gu b->b<W.1.size/\W.1[b]?=E.w0.1[b]?)(aa:∀r b,m.blk r=y? b->E.gu b->m.loose r)(Y:∀b,b<E.w0.1.size->E.gu b\/E.w0.1[b]?=y? qq)(ab:E.w0.1.size<=W.1.size)(ac:W.os=E.w0.os/\W.output=E.w0.output)(hT:E.T=[])(hf:P.funcs[f]?=y? iD)(hb:iD.body=y? c)(ad:Rg E m)(hw:WR m wl W)(O:eP m largs args)
  (h:dk E [⟨f,largs++bm (iD.ntmps-largs.size) gz,[.code c]⟩] wl []):vk P Post (solo (G (gc P f args .normal) []) W) #[]:=by
 have hE:gc P f args .normal=gU f (args++bm (iD.ntmps-args.size) gz) [.code c]:=by simp[gc,gU,hf,hb]
 have ae:Co P E.gu E.w0 (λ_=>False) (λ_=>.quit 0) m wl #[G (gc P f args .normal) []] W #[]:=by
  refine⟨hw,λi g hi hg=>?_,λ_ _=>rfl,λi m' hm=>(by cases hm),λi j m1 m2 _ hm _=>(by cases hm),λi j J1 J2 _ hJ _=>(by cases hJ),λp a b r O=>absurd O (uT p a),λi m' hm=>(by cases hm),λi J hJ=>(by cases hJ),λp a b O=>absurd O (uT p a),λop af=>(by simp at af),λp a O=>absurd O (uT p a),past_nil.clean,U,aa,λi m' hm=>(by cases hm),λi J hJ=>(by cases hJ),ab,ac,λp a b O=>absurd O (uT p a),nofun,λb hb=>(Y b hb).imp id .inr⟩;have:=by simpa using(bk.1 hg).1
  omega
 have:=h m _ _ _ W x? _ _ [] ad ae ⟨λr vs hr=>(by cases hr),λi J n hi=>(by cases hi),λr hr=>(by cases hr)⟩ (by rw[hE,hT];exact .cons (o:=⟨f,largs++bm _ gz,[.code c]⟩) (by rw[<-O.size];exact O.append (.replicate _ (.undef m))) .nil) rfl;rw[hZ]at this;exact this
variable {st:Bool} {f n:Nat} {gE gl:Nat->Bool} {P:P?} {m:Ren}
def Oy(M:Nat)(n:Nat):Bool:=M.testBit n
def Ud(P:P?)(gE gl:Nat->Bool)(st:Bool)(f:Nat):Bool:=match P.funcs[f]? with
 |some fn=>fn.name != "runtime.NumGoroutine" && (match fn.body with
  |some c=>ll (λo=>GN P gE gl st o.op) c|none=>f?)
 |none=>f?
def Qs(P:P?)(gE gl:Nat->Bool)(st:Bool):Oper->Prop:=λo=>GN P gE gl st o.op=t?
def QQ(h:Ud P gE gl st f=t?)(hm:m.ok=Qs P gE gl st):oL P m f:=by
 unfold Ud at h
 cases U:P.funcs[f]? with
 |none=>rw[U]at h;cases h
 |some fn=>
  rw[U]at h;simp only[dl]at h;obtain⟨W,O⟩:=h;refine⟨fn,U,u! W,?_⟩
  cases hb:fn.body with
  |none=>rw[hb]at O;cases O
  |some c=>rw[hb]at O;exact .inl ⟨c,q?,by rw[hm];exact qE O⟩
def Og(P:P?)(gE gl:Nat->Bool)(st:Bool)(ex:Nat->Bool)(n:Nat):Bool:=(cU n).all λf=>!gE f || ex f || Ud P gE gl st f
def El{ex}(h:Og P gE gl st ex n=t?)(W:∀f,gE f=t?->f<n)(hm:m.ok=Qs P gE gl st)(O:∀f,ex f=t?->gE f=t?->oL P m f):∀f,gE f=t?->oL P m f:=by
 intro f U;unfold Og at h;rw[List.all_eq_true]at h;have:=h f (by simpa using W f U);simp only[U,Bool.not_true,Bool.false_or,dw]at this;obtain x|x:=this
 exact O f x U;exact QQ x hm
def Tn(P:P?):Bool:=P.toTables.types.all λi=>match i.zero with
 |some v=>G3 40 v|none=>t?
def Te(P:P?):Bool:=P.toTables.types.all λi=>(i.methods.find? (·.name == "")).isNone
def Oz(h:Tn P=t?)(hmb:Te P=t?):nC P:=by
 have hT:∀(t:Nat)(i:TypeInfo)v,P.toTables.types[t]?=y? i->i.zero=y? v->mK v:=by intro t i v ht U m;unfold Tn at h;rw[bp]at h;obtain⟨O,rfl⟩:=bk.1 ht;have:=h t O;rw[U]at this;exact A8 this m
 have W:∀(t:Nat)(i:TypeInfo),P.toTables.types[t]?=y? i->i.methods.find? (·.name == "")=x?:=by intro t i ht;unfold Te at hmb;rw[bp]at hmb;obtain⟨O,rfl⟩:=bk.1 ht;simpa using hmb t O
 refine⟨λt i v ht U m=>?_,λt i ht=>?_⟩;have ht:P.toTables.info? t=y? i:=ht;unfold Tables.info? at ht;split at ht;exact hT t i v ht U m;exact xD hT _ t i v ht U m;have ht:P.toTables.info? t=y? i:=ht;unfold Tables.info? at ht;split at ht;exact W t i ht;exact Ik W _ t i ht
def Vr:Nat:=16296291696013673141605707346198838935449560434141168097322037386652118454261163305065086976
def Ty:Nat:=1001570083691504317195401104025185627287091139835923004101470451620903362718842486784
def W9:Nat:=7237005590390986380874373471172107595023005440485116358029236060886847717376
def vr:Nat->Bool:=Oy Vr
def uY:Nat->Bool:=Oy Ty
def NM:Nat->Bool:=Oy W9
def tQ(g:Nat):Bool:=g==0 || g==2 || g==3 || g==4
def Di(_:Nat):Bool:=f?
def OS:nC prog:=Oz k! k!
def U1:Og prog vr tQ t? (λf=>f==100 || f==232) 304=t?:=by kernel_rfl
def sendAll:Og prog uY Di f? (λ_=>f?) 304=t?:=by kernel_rfl
def UZ:Og prog NM Di f? (λ_=>f?) 304=t?:=by kernel_rfl
def follows:prog.follows .rangeFuncRecover=t?:=by kernel_rfl
def zZ:prog.globals.size=5:=by kernel_rfl
def uz{M}(O:M >>> n=0)(h:M.testBit f=t?):f<n:=by
 apply de;intro U;have e:(M >>> n).testBit (f-n)=M.testBit f:=by rw[Nat.testBit_shiftRight,Nat.add_sub_of_le (Nat.le_of_not_lt U)]
 rw[O,h,Nat.zero_testBit]at e;cases e
def Uj(f)(h:vr f=t?):f<304:=uz (M:=Vr) k! h
def Sf(f)(h:uY f=t?):f<304:=uz (M:=Ty) k! h
def Vh(f)(h:NM f=t?):f<304:=uz (M:=W9) k! h
def DE{P gE gl}{m:Ren}(O:m.ok=Qs P gE gl st)(U:m.gE=λf=>gE f=t?)(hE:vj P m)(W:st=t?->iw m)(hg:∀g,gl g=t?->m.blk g=y? g):mF P m (λg=>gl g=t?) st:=
 ⟨hE,W,λh=>h.elim,hg,λo Y=>by rw[O]at Y;rw[U];exact xb Y⟩
def Mm:Extern.findNext f100=x?:=by kernel_rfl
def LC:Extern.findNext f232=x?:=by kernel_rfl
def Ns:Extern.find f100=y? (Extern.SlicesOverlaps.overlaps f100.params f100.resultTypes):=by kernel_rfl
def Nu:Extern.find f232=y? Extern.BytealgCompare.compare:=by kernel_rfl
section
variable {m:Ren}
def call100(O:iw m):oL prog m 100:=
 ⟨f100,k!,by simp[f100],.inr ⟨k!,Mm,_,Ns,λm' a Y U W=>IJ (O.mono U) W⟩⟩
def call232:oL prog m 232:=
 ⟨f232,k!,by simp[f232],.inr ⟨k!,LC,_,Nu,λm' a U W O=>My O⟩⟩
def TG(O:m.ok=Qs prog vr tQ t?)(U:m.gE=λf=>vr f=t?)(hG:m.G=5)(W:iw m)(hg:∀g,tQ g=t?->m.blk g=y? g):mF prog m (λg=>tQ g=t?) t?:=
 DE O U ⟨OS,by rw[hG,zZ],λf Y=>by
  rw[U]at Y;refine El U1 Uj O (λf he _=>?_) f Y;simp only[dw,beq_iff_eq]at he;obtain rfl|rfl:=he
  exact call100 W
  exact call232,follows⟩ (λ_=>W) hg
def Sy(O:m.ok=Qs prog uY Di f?)(U:m.gE=λf=>uY f=t?)(Y:m.G=5):mF prog m (λg=>Di g=t?) f?:=
 DE O U ⟨OS,by rw[Y,zZ],λf W=>by
  rw[U]at W
  exact El sendAll Sf O (λf he _=>by cases he) f W,follows⟩ (λh=>by cases h) (λg hg=>by cases hg)
def V9(O:m.ok=Qs prog NM Di f?)(U:m.gE=λf=>NM f=t?)(Y:m.G=5):mF prog m (λg=>Di g=t?) f?:=
 DE O U ⟨OS,by rw[Y,zZ],λf W=>by
  rw[U]at W
  exact El UZ Vh O (λf he _=>by cases he) f W,follows⟩ (λh=>by cases h) (λg hg=>by cases hg)
end
end
